/- package phys: a memory; New, Frames, Load, Store. -/
import Derived.Test.YtgfidbjhihignaaLink
import Derived.Test.YtgfidbjhihignaaApp
import Derived.LoopIn
import Derived.LoopTactic
import Derived.Outline
import Derived.OwnWalk
import Derived.Laws.OwnMore
namespace Go.Proofs.Ytgfidbjhihignaa
set_option linter.unusedVariables false
set_option linter.unusedSimpArgs false
open Go.ChangeShapes Go.WideShapes Go.ChangeAt Go.RowKit Go.Shelf
attribute [local go_sem] Oper.semAt_some
/-- A word. -/
def WordI (x : Int) : Prop := 0 ≤ x ∧ x ≤ 18446744073709551615
/-- A memory of n frames: its header in block b, its words in block g. -/
structure MemAt (w : World) (b g n c : Nat) (m : Nat → Int) : Prop where
  hd : w.cell? ⟨b, 0, none⟩ = some (.slice (some ⟨g, 0, none⟩) n c)
  cells : ∀ k, k < 8 * n → w.cell? ⟨g, k, none⟩ = some (.int .u64 (m k))
  free : ∀ k, w.frozen? ⟨g, k, none⟩ = false
  word : ∀ k, WordI (m k)
  n1 : 1 ≤ n
  n64 : n ≤ 64
  cap : n ≤ c
  ne : b ≠ g
  lb : b < w.heap.size
  lg : g < w.heap.size
theorem cell_of_block {W W' : World} {b j : Nat} (h : W'.heap[b]? = W.heap[b]?) : W'.cell? ⟨b, j, none⟩ = W.cell? ⟨b, j, none⟩ := by
  unfold World.cell?
  simp only [h]
theorem frozen_of_block {W W' : World} {b j : Nat} (h : W'.heap[b]? = W.heap[b]?) : W'.frozen? ⟨b, j, none⟩ = W.frozen? ⟨b, j, none⟩ := by
  unfold World.frozen?
  simp only [h]
theorem MemAt.of_blocks {W W' : World} {b g n c : Nat} {m : Nat → Int} (h : MemAt W b g n c m) (hs : W.heap.size ≤ W'.heap.size) (e : W'.heap[b]? = W.heap[b]?) (e2 : W'.heap[g]? = W.heap[g]?) : MemAt W' b g n c m :=
  ⟨(cell_of_block e).trans h.hd, fun k hk => (cell_of_block e2).trans (h.cells k hk), fun k => (frozen_of_block e2).trans (h.free k), h.word, h.n1, h.n64, h.cap, h.ne, Nat.lt_of_lt_of_le h.lb hs, Nat.lt_of_lt_of_le h.lg hs⟩
theorem MemAt.call {w w' : World} {b g n c : Nat} {m : Nat → Int} (h : MemAt w b g n c m) (k : Below w.heap.size w w') : MemAt w' b g n c m := h.of_blocks k.size (k.block b h.lb) (k.block g h.lg)
/-- One block is turned. -/
structure BlkOnly (b : Nat) (w w' : World) : Prop where
  os : w'.os = w.os
  tape : w'.tape = w.tape
  output : w'.output = w.output
  size : w.heap.size ≤ w'.heap.size
  block : ∀ k, k < w.heap.size → k ≠ b → w'.heap[k]? = w.heap[k]?
theorem BlkOnly.refl (b : Nat) (w : World) : BlkOnly b w w := ⟨rfl, rfl, rfl, Nat.le_refl _, fun _ _ _ => rfl⟩
theorem BlkOnly.of_below {b : Nat} {w w' : World} (h : Below w.heap.size w w') : BlkOnly b w w' := ⟨h.os, h.tape, h.output, h.size, fun k hk _ => h.block k hk⟩
theorem BlkOnly.trans {b : Nat} {a c d : World} (h : BlkOnly b a c) (k : BlkOnly b c d) : BlkOnly b a d := ⟨k.os.trans h.os, k.tape.trans h.tape, k.output.trans h.output, Nat.le_trans h.size k.size, fun i hi hj => (k.block i (Nat.lt_of_lt_of_le hi h.size) hj).trans (h.block i hi hj)⟩
theorem BlkOnly.below {b B : Nat} {w w' : World} (h : BlkOnly b w w') (hB : B ≤ b) (hb : b < w.heap.size) : Below B w w' := ⟨h.os, h.tape, h.output, h.size, fun k hk => h.block k (by omega) (by omega)⟩
theorem BlkOnly.set {b : Nat} {a c : World} (h : BlkOnly b a c) (i : Nat) (v : Value) : BlkOnly b a (c.setCell ⟨b, i, none⟩ v) :=
  ⟨h.os, h.tape, h.output, by simpa using h.size, fun k hk hn => (Go.heap_setCell_other _ _ _ _ hn).trans (h.block k hk hn)⟩
theorem BlkOnly.grown {b : Nat} {w w' : World} (h : BlkOnly b w w') : w.grownBy w' (some b) := ⟨h.os, h.tape, h.output, h.size, fun k hk hn => h.block k hk (fun e => hn (by rw [e]))⟩
theorem BlkOnly.lt {b k : Nat} {w w' : World} (h : BlkOnly b w w') (hk : k < w.heap.size) : k < w'.heap.size := Nat.lt_of_lt_of_le hk h.size
theorem BlkOnly.mem {q b g n c : Nat} {w w' : World} {m : Nat → Int} (h : BlkOnly q w w') (hA : MemAt w b g n c m) (h1 : b ≠ q) (h2 : g ≠ q) : MemAt w' b g n c m := hA.of_blocks h.size (h.block b hA.lb h1) (h.block g hA.lg h2)
/-- One word set. -/
def updM (m : Nat → Int) (k : Nat) (v : Int) : Nat → Int := fun j => if j = k then v else m j
theorem mem_set {w : World} {b g n c : Nat} {m : Nat → Int} (h : MemAt w b g n c m) {k : Nat} (hk : k < 8 * n) {v : Int} (hv : WordI v) : MemAt (w.setCell ⟨g, k, none⟩ (.int .u64 v)) b g n c (updM m k v) := by
  refine ⟨?_, fun j hj => ?_, fun j => ?_, fun j => ?_, h.n1, h.n64, h.cap, h.ne, by simpa using h.lb, by simpa using h.lg⟩
  · rw [World.cell?_setCell_other, h.hd]
    intro e; simp only [Addr.mk.injEq] at e; exact h.ne e.1.symm
  · unfold updM
    by_cases e : j = k
    · subst e
      have := h.cells j hj
      simp [go_sem, this]
    · rw [if_neg e, World.cell?_setCell_other, h.cells j hj]
      intro e2; simp only [Addr.mk.injEq, true_and, and_true] at e2; exact e e2.symm
  · simp [go_sem, h.free j]
  · unfold updM
    split
    · exact hv
    · exact h.word j
/-- What is wrong with an address: 0, 4, 3. -/
def wrongF (n : Nat) (a : Int) : Int := if a % 8 ≠ 0 then 4 else if (n : Int) ≤ a / 64 then 3 else 0
theorem wrong_0 {n : Nat} {a : Int} (h : a % 8 = 0) (h2 : a / 64 < n) : wrongF n a = 0 := by
  unfold wrongF
  rw [if_neg (by omega), if_neg (by omega)]
theorem wrong_4 {n : Nat} {a : Int} (h : a % 8 ≠ 0) : wrongF n a = 4 := by
  unfold wrongF
  rw [if_pos h]
theorem wrong_3 {n : Nat} {a : Int} (h : a % 8 = 0) (h2 : (n : Int) ≤ a / 64) : wrongF n a = 3 := by
  unfold wrongF
  rw [if_neg (by omega), if_pos h2]
theorem word_ok (w : World) (b g n c : Nat) (m : Nat → Int) (k : Nat) (h : MemAt w b g n c m) (hk : k < 8 * n) :
    Calls Try.prog 28 #[.pointer (some ⟨b, 0, none⟩), .int .u64 (8 * (k : Int))] w fun e w' => e = .returned (.tuple #[.pointer (some ⟨g, k, none⟩), .int .i64 0]) ∧ w = w' := by
  have hd := h.hd
  have hn := h.n64
  have hck := h.cells k hk
  have hcap := h.cap
  obtain ⟨a, ha⟩ : ∃ a : Int, 8 * (k : Int) = a := ⟨_, rfl⟩
  rw [ha]
  have a0 : 0 ≤ a := by omega
  have a1 : a ≤ 4096 := by omega
  have a2 : a % 8 = 0 := by omega
  have a3 : a / 64 < n := by omega
  have a4 : 0 ≤ a / 64 := by omega
  have a5 : 0 ≤ a % 64 / 8 := by omega
  have a6 : a % 64 / 8 < 8 := by omega
  have a7 : (a / 64).toNat * 8 + (a % 64 / 8).toNat = k := by omega
  have HK := Lib.hid a7
  clear ha a7
  go_enter Try.func28, Try.ntmps28
  go_wp2
  go_ret2
  exact ⟨by rw [HK.out]; rfl, rfl⟩
theorem word_bad (w : World) (b g n c : Nat) (m : Nat → Int) (a : Int) (h : MemAt w b g n c m) (ha : WordI a) (he : (wrongF n a == 0) = false) :
    Calls Try.prog 28 #[.pointer (some ⟨b, 0, none⟩), .int .u64 a] w fun e w' => e = .returned (.tuple #[.pointer none, .int .i64 (wrongF n a)]) ∧ w = w' := by
  have hd := h.hd
  have hn := h.n64
  have hcap := h.cap
  obtain ⟨a0, a1⟩ := ha
  by_cases h8 : a % 8 = 0
  · by_cases h3 : (n : Int) ≤ a / 64
    · rw [wrong_3 h8 h3]
      clear he
      go_enter Try.func28, Try.ntmps28
      go_wp2
      go_ret2
      exact ⟨rfl, rfl⟩
    · rw [wrong_0 h8 (by omega)] at he
      simp at he
  · rw [wrong_4 h8]
    have h9 : (a % 8 == 0) = false := beq_eq_false_iff_ne.2 h8
    clear he
    go_enter Try.func28, Try.ntmps28
    go_wp2
    go_ret2
    exact ⟨rfl, rfl⟩
/-- The word of an address that is one. -/
theorem addr_of {n : Nat} {a : Int} (ha : WordI a) (he : wrongF n a = 0) : ∃ k : Nat, a = 8 * (k : Int) ∧ k < 8 * n := by
  obtain ⟨a0, a1⟩ := ha
  unfold wrongF at he
  split at he
  · cases he
  · split at he
    · cases he
    · exact ⟨(a / 8).toNat, by omega, by omega⟩
theorem load_ok (w : World) (b g n c : Nat) (m : Nat → Int) (k : Nat) (h : MemAt w b g n c m) (hk : k < 8 * n) :
    Calls Try.prog 20 #[.pointer (some ⟨b, 0, none⟩), .int .u64 (8 * (k : Int))] w fun e w' => e = .returned (.tuple #[.int .u64 (m k), .int .i64 0]) ∧ w = w' := by
  have H := Lib.hid h
  have hck := h.cells k hk
  obtain ⟨x, hx⟩ : ∃ x, m k = x := ⟨_, rfl⟩
  rw [hx] at hck ⊢
  clear h hx
  go_enter Try.func20, Try.ntmps20
  go_wp2_with (go_at_call 28; refine (word_ok _ b g n c m k H.out hk).mono ?_; rintro e w1 ⟨rfl, rfl⟩)
  go_ret2
  exact ⟨rfl, rfl⟩
theorem load_bad (w : World) (b g n c : Nat) (m : Nat → Int) (a : Int) (h : MemAt w b g n c m) (ha : WordI a) (he : (wrongF n a == 0) = false) :
    Calls Try.prog 20 #[.pointer (some ⟨b, 0, none⟩), .int .u64 a] w fun e w' => e = .returned (.tuple #[.int .u64 0, .int .i64 (wrongF n a)]) ∧ w = w' := by
  have H := Lib.hid h
  have HA := Lib.hid ha
  have HE := Lib.hid he
  clear h ha
  obtain ⟨x, hx⟩ : ∃ x, wrongF n a = x := ⟨_, rfl⟩
  have HX := Lib.hid hx
  rw [hx] at he ⊢
  clear hx
  go_enter Try.func20, Try.ntmps20
  go_wp2_with (go_at_call 28; refine (word_bad _ b g n c m a H.out HA.out HE.out).mono ?_; rw [HX.out]; rintro e w1 ⟨rfl, rfl⟩)
  go_ret2
  exact ⟨rfl, rfl⟩
theorem store_ok (w : World) (b g n c : Nat) (m : Nat → Int) (k : Nat) (v : Int) (h : MemAt w b g n c m) (hk : k < 8 * n) (hv : WordI v) :
    Calls Try.prog 12 #[.pointer (some ⟨b, 0, none⟩), .int .u64 (8 * (k : Int)), .int .u64 v] w fun e w' => e = .returned (.int .i64 0) ∧ MemAt w' b g n c (updM m k v) ∧ BlkOnly g w w' := by
  have H := Lib.hid h
  have HV := Lib.hid hv
  have hck := h.cells k hk
  have hf := h.free k
  clear h hv
  go_enter Try.func12, Try.ntmps12
  go_wp2_with (go_at_call 28; refine (word_ok _ b g n c m k H.out hk).mono ?_; rintro e w1 ⟨rfl, rfl⟩)
  go_ret
  exact ⟨rfl, mem_set H.out hk HV.out, (BlkOnly.refl _ _).set _ _⟩
theorem store_bad (w : World) (b g n c : Nat) (m : Nat → Int) (a v : Int) (h : MemAt w b g n c m) (ha : WordI a) (he : (wrongF n a == 0) = false) :
    Calls Try.prog 12 #[.pointer (some ⟨b, 0, none⟩), .int .u64 a, .int .u64 v] w fun e w' => e = .returned (.int .i64 (wrongF n a)) ∧ w = w' := by
  have H := Lib.hid h
  have HA := Lib.hid ha
  have HE := Lib.hid he
  clear h ha
  obtain ⟨x, hx⟩ : ∃ x, wrongF n a = x := ⟨_, rfl⟩
  have HX := Lib.hid hx
  rw [hx] at he ⊢
  clear hx
  go_enter Try.func12, Try.ntmps12
  go_wp2_with (go_at_call 28; refine (word_bad _ b g n c m a H.out HA.out HE.out).mono ?_; rw [HX.out]; rintro e w1 ⟨rfl, rfl⟩)
  go_ret
  exact ⟨rfl, rfl⟩
theorem frames_any (w : World) (b g n c : Nat) (m : Nat → Int) (h : MemAt w b g n c m) :
    Calls Try.prog 32 #[.pointer (some ⟨b, 0, none⟩)] w fun e w' => e = .returned (.int .i64 n) ∧ w = w' := by
  have hd := h.hd
  clear h
  go_enter Try.func32, Try.ntmps32
  go_wp2
  go_ret
  exact ⟨rfl, rfl⟩
theorem has_any (w : World) (b g n c : Nat) (m : Nat → Int) (f : Int) (t : Bool) (h : MemAt w b g n c m) (ht : decide (0 ≤ f ∧ f < n) = t) :
    Calls Try.prog 45 #[.pointer (some ⟨b, 0, none⟩), .int .i64 f] w fun e w' => e = .returned (.bool t) ∧ w = w' := by
  have hd := h.hd
  clear h
  by_cases h0 : 0 ≤ f
  · by_cases h1 : f < n
    · obtain rfl : t = true := by rw [← ht]; exact decide_eq_true ⟨h0, h1⟩
      clear ht
      go_enter Try.func45, Try.ntmps45
      go_wp2
      go_ret
      exact ⟨rfl, rfl⟩
    · obtain rfl : t = false := by rw [← ht]; exact decide_eq_false (fun e => h1 e.2)
      clear ht
      go_enter Try.func45, Try.ntmps45
      go_wp2
      go_ret
      exact ⟨rfl, rfl⟩
  · obtain rfl : t = false := by rw [← ht]; exact decide_eq_false (fun e => h0 e.1)
    clear ht
    go_enter Try.func45, Try.ntmps45
    go_wp2
    go_ret
    exact ⟨rfl, rfl⟩
theorem infoFr : (Try.prog.info? 95).map (fun i => (i.zero, i.size, i.bytes)) = some (some (.agg #[.int .u64 0, .int .u64 0, .int .u64 0, .int .u64 0, .int .u64 0, .int .u64 0, .int .u64 0, .int .u64 0]), 8, 64) := by kernel_rfl
theorem infoW : (Try.prog.info? 30).map (fun i => (i.zero, i.size, i.bytes)) = some (some (.int .u64 0), 1, 8) := by kernel_rfl
end Go.Proofs.Ytgfidbjhihignaa
