/- Chapter 2: Frames, wrong, Load, Store. -/
import Derived.Test.YtgfidbjhihignaaPwMem3
import Derived.Deep.MidRow
import Derived.Lib.SliceRun
import Derived.StillTailTactics
import Derived.Deep.QuietTactic
import Derived.BigQuiet
import Derived.Maps.AppendAt
import Derived.Deep.RegionHeld3
namespace Go.Proofs.Ytgfidbjhihignaa
set_option linter.unusedVariables false
set_option linter.unusedSimpArgs false
open Go.ChangeShapes Go.WideShapes Go.ChangeAt Go.RowKit

open Go.Shelf
/-- The own answer's memory: all words in one list. -/
structure RefAt (w : World) (b g n c : Nat) (m : Nat → Int) : Prop where
  hd : w.cell? ⟨b, 0, none⟩ = some (.slice (some ⟨g, 0, none⟩) (8 * n) c)
  cells : ∀ k, k < 8 * n → w.cell? ⟨g, k, none⟩ = some (.int .u64 (m k))
  free : ∀ k, w.frozen? ⟨g, k, none⟩ = false
  word : ∀ k, WordI (m k)
  n1 : 1 ≤ n
  n64 : n ≤ 64
  cap : 8 * n ≤ c
  capm : c ≤ maxLen
  ne : b ≠ g
  lb : b < w.heap.size
  lg : g < w.heap.size
theorem RefAt.of_blocks {W W' : World} {b g n c : Nat} {m : Nat → Int} (h : RefAt W b g n c m) (hs : W.heap.size ≤ W'.heap.size) (e : W'.heap[b]? = W.heap[b]?) (e2 : W'.heap[g]? = W.heap[g]?) : RefAt W' b g n c m :=
  ⟨(cell_of_block e).trans h.hd, fun k hk => (cell_of_block e2).trans (h.cells k hk), fun k => (frozen_of_block e2).trans (h.free k), h.word, h.n1, h.n64, h.cap, h.capm, h.ne, Nat.lt_of_lt_of_le h.lb hs, Nat.lt_of_lt_of_le h.lg hs⟩
theorem RefAt.call {w w' : World} {b g n c : Nat} {m : Nat → Int} (h : RefAt w b g n c m) (k : Below w.heap.size w w') : RefAt w' b g n c m := h.of_blocks k.size (k.block b h.lb) (k.block g h.lg)
theorem BlkOnly.ref {q b g n c : Nat} {w w' : World} {m : Nat → Int} (h : BlkOnly q w w') (hA : RefAt w b g n c m) (h1 : b ≠ q) (h2 : g ≠ q) : RefAt w' b g n c m := hA.of_blocks h.size (h.block b hA.lb h1) (h.block g hA.lg h2)
theorem ref_set {w : World} {b g n c : Nat} {m : Nat → Int} (h : RefAt w b g n c m) {k : Nat} (hk : k < 8 * n) {v : Int} (hv : WordI v) : RefAt (w.setCell ⟨g, k, none⟩ (.int .u64 v)) b g n c (updM m k v) := by
  refine ⟨?_, fun j hj => ?_, fun j => ?_, fun j => ?_, h.n1, h.n64, h.cap, h.capm, h.ne, by simpa using h.lb, by simpa using h.lg⟩
  · rw [World.cell?_setCell_other, h.hd]
    intro e; simp only [Addr.mk.injEq] at e; exact h.ne e.1.symm
  · unfold updM
    by_cases e : j = k
    · subst e
      have := h.cells j hj
      simp [go_sem, this]
    · rw [if_neg e, World.cell?_setCell_other, h.cells j hj]
      intro e2; simp only [Addr.mk.injEq, true_and, and_true] at e2; exact e e2.symm
  · simp [go_sem, h.free j]
  · unfold updM
    split
    · exact hv
    · exact h.word j
theorem rframes_any (w : World) (b g n c : Nat) (m : Nat → Int) (h : RefAt w b g n c m) :
    Calls Try.prog 33 #[.pointer (some ⟨b, 0, none⟩)] w fun e w' => e = .returned (.int .i64 n) ∧ w = w' := by
  have hd := h.hd
  have hn := h.n64
  have e1 : ((8 * n : Nat) : Int) / 8 = n := by omega
  have e2 : (8 * (n : Int)) / 8 = n := by omega
  clear h
  go_enter Try.func33, Try.ntmps33
  go_wp2
  go_ret
  exact ⟨by first | rfl | (congr 2; omega) | (simp; omega), rfl⟩
theorem rwrong_any (w : World) (b g n c : Nat) (m : Nat → Int) (a : Int) (h : RefAt w b g n c m) (ha : WordI a) :
    Calls Try.prog 29 #[.pointer (some ⟨b, 0, none⟩), .int .u64 a] w fun e w' => e = .returned (.int .i64 (wrongF n a)) ∧ w = w' := by
  have hd := h.hd
  have hn := h.n64
  obtain ⟨a0, a1⟩ := ha
  clear h
  by_cases h8 : a % 8 = 0
  · by_cases h3 : (n : Int) ≤ a / 64
    · rw [wrong_3 h8 h3]
      have h4 : 8 * (n : Int) ≤ a / 8 := by omega
      have h5 : ((8 * n : Nat) : Int) ≤ a / 8 := by omega
      go_enter Try.func29, Try.ntmps29
      go_wp2
      go_ret
      exact ⟨rfl, rfl⟩
    · rw [wrong_0 h8 (by omega)]
      have h4 : ¬ 8 * (n : Int) ≤ a / 8 := by omega
      have h5 : ¬ ((8 * n : Nat) : Int) ≤ a / 8 := by omega
      go_enter Try.func29, Try.ntmps29
      go_wp2
      go_ret
      exact ⟨rfl, rfl⟩
  · rw [wrong_4 h8]
    have h9 : (a % 8 == 0) = false := beq_eq_false_iff_ne.2 h8
    go_enter Try.func29, Try.ntmps29
    go_wp2
    go_ret
    exact ⟨rfl, rfl⟩
theorem rstore_ok (w : World) (b g n c : Nat) (m : Nat → Int) (k : Nat) (v : Int) (h : RefAt w b g n c m) (hk : k < 8 * n) (hv : WordI v) :
    Calls Try.prog 13 #[.pointer (some ⟨b, 0, none⟩), .int .u64 (8 * (k : Int)), .int .u64 v] w fun e w' => e = .returned (.int .i64 0) ∧ RefAt w' b g n c (updM m k v) ∧ BlkOnly g w w' := by
  have H := Lib.hid h
  have HV := Lib.hid hv
  have hd := h.hd
  have hn := h.n64
  have hck := h.cells k hk
  have hf := h.free k
  have hcap := h.cap
  have hw : wrongF n (8 * (k : Int)) = 0 := wrong_0 (by omega) (by omega)
  have HW := Lib.hid hw
  obtain ⟨a, ha⟩ : ∃ a : Int, 8 * (k : Int) = a := ⟨_, rfl⟩
  rw [ha] at HW ⊢
  have a0 : 0 ≤ a := by omega
  have a1 : a ≤ 4096 := by omega
  have a4 : 0 ≤ a / 8 := by omega
  have a5 : a / 8 < 8 * (n : Int) := by omega
  have a6 : a / 8 < ((8 * n : Nat) : Int) := by omega
  have a7 : (a / 8).toNat = k := by omega
  clear h hw ha hv
  go_enter Try.func13, Try.ntmps13
  go_wp2_with (go_at_call 29; refine (rwrong_any _ b g n c m _ H.out ⟨by omega, by omega⟩).mono ?_; rw [HW.out]; rintro e w1 ⟨rfl, rfl⟩)
  all_goals (try go_quiet (fail))
  all_goals go_ret
  exact ⟨rfl, ref_set H.out hk HV.out, (BlkOnly.refl _ _).set _ _⟩
theorem rstore_bad (w : World) (b g n c : Nat) (m : Nat → Int) (a v : Int) (h : RefAt w b g n c m) (ha : WordI a) (he : (wrongF n a == 0) = false) :
    Calls Try.prog 13 #[.pointer (some ⟨b, 0, none⟩), .int .u64 a, .int .u64 v] w fun e w' => e = .returned (.int .i64 (wrongF n a)) ∧ w = w' := by
  have H := Lib.hid h
  have HA := Lib.hid ha
  clear h ha
  obtain ⟨x, hx⟩ : ∃ x, wrongF n a = x := ⟨_, rfl⟩
  have HX := Lib.hid hx
  rw [hx] at he ⊢
  clear hx
  go_enter Try.func13, Try.ntmps13
  go_wp2_with (go_at_call 29; refine (rwrong_any _ b g n c m a H.out HA.out).mono ?_; rw [HX.out]; rintro e w1 ⟨rfl, rfl⟩)
  go_ret
  exact ⟨rfl, rfl⟩
end Go.Proofs.Ytgfidbjhihignaa
