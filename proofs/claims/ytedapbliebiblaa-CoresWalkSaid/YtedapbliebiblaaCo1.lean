/- package cores: the cores; New, get, Len, Set, Regs. -/
import Derived.Test.YtedapbliebiblaaTkK
import Derived.Test.YtedapbliebiblaaWa5
import Derived.Test.YtedapbliebiblaaKq
namespace Go.Proofs.Ytedapbliebiblaa
set_option linter.unusedVariables false
set_option linter.unusedSimpArgs false
open Go.ChangeShapes Go.WideShapes Go.ChangeAt Go.RowKit Go.Shelf

abbrev TS := Nat → TransX × TransX × Int
def RegOk (r s : Int) : Prop := (r = -1 ∧ s = 0) ∨ (0 ≤ r ∧ r < 64 ∧ 1 ≤ s)
/-- Cores: the header in block b, the rows in block g, the caches in blocks T i. -/
structure CoresAt (w : World) (b g n c : Nat) (R Q : Nat → Int) (T : Nat → Nat) (S : Nat → TS) : Prop where
  hd : w.cell? ⟨b, 0, none⟩ = some (.slice (some ⟨g, 0, none⟩) n c)
  row : ∀ i, i < n → w.cell? ⟨g, i * 3, none⟩ = some (.int .i64 (R i)) ∧ w.cell? ⟨g, i * 3 + 1, none⟩ = some (.int .i64 (Q i)) ∧ w.cell? ⟨g, i * 3 + 2, none⟩ = some (.pointer (some ⟨T i, 0, none⟩))
  free : ∀ j, w.frozen? ⟨g, j, none⟩ = false
  tlb : ∀ i, i < n → TlbAt w (T i) (S i)
  good : ∀ i, i < n → Good (S i)
  regs : ∀ i, i < n → RegOk (R i) (Q i)
  dist : ∀ i j, i < n → j < n → i ≠ j → T i ≠ T j
  off : ∀ i, i < n → T i ≠ b ∧ T i ≠ g
  ne : b ≠ g
  lb : b < w.heap.size
  lg : g < w.heap.size
  n1 : 1 ≤ n
  n3 : n ≤ 3
  cap : n ≤ c
theorem CoresAt.of_blocks {w w' : World} {b g n c : Nat} {R Q : Nat → Int} {T : Nat → Nat} {S : Nat → TS} (h : CoresAt w b g n c R Q T S) (hs : w.heap.size ≤ w'.heap.size) (e : w'.heap[b]? = w.heap[b]?) (e2 : w'.heap[g]? = w.heap[g]?) (e3 : ∀ i, i < n → w'.heap[T i]? = w.heap[T i]?) : CoresAt w' b g n c R Q T S :=
  ⟨(cell_of_block e).trans h.hd, fun i hi => ⟨(cell_of_block e2).trans (h.row i hi).1, (cell_of_block e2).trans (h.row i hi).2.1, (cell_of_block e2).trans (h.row i hi).2.2⟩, fun j => (frozen_of_block e2).trans (h.free j), fun i hi => (h.tlb i hi).of_block hs (e3 i hi), h.good, h.regs, h.dist, h.off, h.ne, Nat.lt_of_lt_of_le h.lb hs, Nat.lt_of_lt_of_le h.lg hs, h.n1, h.n3, h.cap⟩
theorem CoresAt.call {w w' : World} {b g n c : Nat} {R Q : Nat → Int} {T : Nat → Nat} {S : Nat → TS} (h : CoresAt w b g n c R Q T S) (k : Below w.heap.size w w') : CoresAt w' b g n c R Q T S :=
  h.of_blocks k.size (k.block b h.lb) (k.block g h.lg) fun i hi => k.block _ (h.tlb i hi).lt
theorem CoresAt.drew {w : World} {b g n c : Nat} {R Q : Nat → Int} {T : Nat → Nat} {S : Nat → TS} (h : CoresAt w b g n c R Q T S) : CoresAt w.drew b g n c R Q T S := h.of_blocks (Nat.le_refl _) rfl rfl fun _ _ => rfl
def setR (R : Nat → Int) (k : Nat) (v : Int) : Nat → Int := fun i => if i = k then v else R i
def setT (S : Nat → TS) (k : Nat) (s : TS) : Nat → TS := fun i => if i = k then s else S i
/-- One cache is turned. -/
theorem CoresAt.put {w w' : World} {b g n c k : Nat} {R Q : Nat → Int} {T : Nat → Nat} {S : Nat → TS} (h : CoresAt w b g n c R Q T S) (hk : k < n) {s : TS} (ht : TlbAt w' (T k) s) (hg : Good s) (ho : TlbOnly (T k) w w') : CoresAt w' b g n c R Q T (setT S k s) := by
  have hoff := h.off k hk
  have e := ho.block b h.lb (Ne.symm hoff.1)
  have e2 := ho.block g h.lg (Ne.symm hoff.2)
  refine ⟨(cell_of_block e).trans h.hd, fun i hi => ⟨(cell_of_block e2).trans (h.row i hi).1, (cell_of_block e2).trans (h.row i hi).2.1, (cell_of_block e2).trans (h.row i hi).2.2⟩, fun j => (frozen_of_block e2).trans (h.free j), fun i hi => ?_, fun i hi => ?_, h.regs, h.dist, h.off, h.ne, Nat.lt_of_lt_of_le h.lb ho.size, Nat.lt_of_lt_of_le h.lg ho.size, h.n1, h.n3, h.cap⟩
  · unfold setT
    by_cases e : i = k
    · subst e; rw [if_pos rfl]; exact ht
    · rw [if_neg e]; exact (h.tlb i hi).of_block ho.size (ho.block _ (h.tlb i hi).lt (h.dist i k hi hk e))
  · unfold setT
    split
    · exact hg
    · exact h.good i hi
theorem get_ok (w : World) (b g n c k : Nat) (R Q : Nat → Int) (T : Nat → Nat) (S : Nat → TS) (h : CoresAt w b g n c R Q T S) (hk : k < n) :
    Calls Try.prog 42 #[.pointer (some ⟨b, 0, none⟩), .int .i64 k] w fun e w' => e = .returned (.tuple #[.pointer (some ⟨g, k * 3, none⟩), .int .i64 0]) ∧ w = w' := by
  have hd := h.hd
  have n3 := h.n3
  have k1 : (k : Int) < n := by omega
  clear h
  go_enter Try.func42, Try.ntmps42
  go_wp2
  go_ret2
  exact ⟨rfl, rfl⟩
theorem get_bad (w : World) (b g n c : Nat) (k : Int) (R Q : Nat → Int) (T : Nat → Nat) (S : Nat → TS) (h : CoresAt w b g n c R Q T S) (hk : k < 0 ∨ (n : Int) ≤ k) :
    Calls Try.prog 42 #[.pointer (some ⟨b, 0, none⟩), .int .i64 k] w fun e w' => e = .returned (.tuple #[.pointer none, .int .i64 3]) ∧ w = w' := by
  have hd := h.hd
  have n3 := h.n3
  clear h
  by_cases k0 : k < 0
  · clear hk
    go_enter Try.func42, Try.ntmps42
    go_wp2
    go_ret2
    exact ⟨rfl, rfl⟩
  · have k1 : (n : Int) ≤ k := by omega
    clear hk
    go_enter Try.func42, Try.ntmps42
    go_wp2
    go_ret2
    exact ⟨rfl, rfl⟩
theorem get_nil (w : World) (k : Int) :
    Calls Try.prog 42 #[.pointer none, .int .i64 k] w fun e w' => e = .returned (.tuple #[.pointer none, .int .i64 1]) ∧ w = w' := by
  go_enter Try.func42, Try.ntmps42
  go_wp2
  go_ret2
  exact ⟨rfl, rfl⟩
theorem tnew_any (W : World) : Calls Try.prog 30 #[] W fun e w' => e = .returned (.pointer (some ⟨W.heap.size, 0, none⟩)) ∧ TlbAt w' W.heap.size S0 ∧ Below W.heap.size W w' := by
  have h := Lib.hid (tlbAt_new W)
  go_enter Try.func30, Try.ntmps30
  go_wp2
  go_ret
  exact ⟨rfl, h.out, bal (Below.refl _ _) _⟩
end Go.Proofs.Ytedapbliebiblaa
