/- package decode: put, get. -/
import Derived.Test.YtahagcghbeeajaaBase
import Derived.Laws.Rows
import Derived.BigRegion
import Derived.Deep.RegionWith
namespace Go.Proofs.Ytahagcghbeeajaa
set_option linter.unusedVariables false
set_option linter.unusedSimpArgs false
open Go.ChangeShapes Go.WideShapes Go.ChangeAt Go.RowKit

/-- An order's cells, by their numbers. -/
def ordA (o : Nat → Int) : Array Value := #[.int .i64 (o 0), .int .i64 (o 1), .int .i64 (o 2), .int .i64 (o 3), .int .i64 (o 4), .int .i64 (o 5), .int .i64 (o 6), .int .u64 (o 7), .int .u64 (o 8), .int .u64 (o 9), .int .u64 (o 10), .int .u64 (o 11)]
def up (o : Nat → Int) (i : Nat) (v : Int) (j : Nat) : Int := if j = i then v else o j
abbrev OrdAt (w : World) (q : Nat) (o : Nat → Int) : Prop := w.heap[q]? = some (.cells (ordA o) 29 (0, 0))
theorem OrdAt.cells {w : World} {q : Nat} {o : Nat → Int} (h : OrdAt w q o) : w.cell? ⟨q, 0, none⟩ = some (.int .i64 (o 0)) ∧ w.cell? ⟨q, 1, none⟩ = some (.int .i64 (o 1)) ∧ w.cell? ⟨q, 2, none⟩ = some (.int .i64 (o 2)) ∧ w.cell? ⟨q, 3, none⟩ = some (.int .i64 (o 3)) ∧ w.cell? ⟨q, 4, none⟩ = some (.int .i64 (o 4)) ∧ w.cell? ⟨q, 5, none⟩ = some (.int .i64 (o 5)) ∧ w.cell? ⟨q, 6, none⟩ = some (.int .i64 (o 6)) ∧ w.cell? ⟨q, 7, none⟩ = some (.int .u64 (o 7)) ∧ w.cell? ⟨q, 8, none⟩ = some (.int .u64 (o 8)) ∧ w.cell? ⟨q, 9, none⟩ = some (.int .u64 (o 9)) ∧ w.cell? ⟨q, 10, none⟩ = some (.int .u64 (o 10)) ∧ w.cell? ⟨q, 11, none⟩ = some (.int .u64 (o 11)) := by
  have e : ∀ j, w.cell? ⟨q, j, none⟩ = (ordA o)[j]? := fun j => by simp [World.cell?, h]
  simp only [e]
  exact ⟨rfl, rfl, rfl, rfl, rfl, rfl, rfl, rfl, rfl, rfl, rfl, rfl⟩
theorem OrdAt.free {w : World} {q : Nat} {o : Nat → Int} (h : OrdAt w q o) (j : Nat) : w.frozen? ⟨q, j, none⟩ = false := by simp [World.frozen?, h]
theorem OrdAt.lt {w : World} {q : Nat} {o : Nat → Int} (h : OrdAt w q o) : q < w.heap.size := (Array.getElem?_eq_some_iff.1 h).1
theorem OrdAt.set {w : World} {q : Nat} {o o' : Nat → Int} (i : Nat) (v : Value) (h : OrdAt w q o) (e : (ordA o).setIfInBounds i v = ordA o') : OrdAt (w.setCell ⟨q, i, none⟩ v) q o' := by
  unfold OrdAt
  rw [← e]
  exact Go.heap_setCell_same w q i _ _ _ h
/-- One block alone is turned. -/
structure OneOnly (q : Nat) (w w' : World) : Prop where
  os : w'.os = w.os
  tape : w'.tape = w.tape
  output : w'.output = w.output
  size : w.heap.size ≤ w'.heap.size
  block : ∀ k, k < w.heap.size → k ≠ q → w'.heap[k]? = w.heap[k]?
theorem OneOnly.refl {q : Nat} {w : World} : OneOnly q w w := ⟨rfl, rfl, rfl, Nat.le_refl _, fun _ _ _ => rfl⟩
theorem OneOnly.set {q : Nat} {w w' : World} (h : OneOnly q w w') (i : Nat) (v : Value) : OneOnly q w (w'.setCell ⟨q, i, none⟩ v) :=
  ⟨h.os, h.tape, h.output, by simpa using h.size, fun k hk hq => (Go.heap_setCell_other _ _ _ _ hq).trans (h.block k hk hq)⟩
theorem OneOnly.drew {q : Nat} {w w' : World} (h : OneOnly q w w') : OneOnly q w w'.drew := ⟨h.os, h.tape, h.output, h.size, h.block⟩
def putF (p : Nat) (x : Int) (o : Nat → Int) : Nat → Int :=
  match p with
  | 0 => o
  | 1 => up o 1 (wrap64 x)
  | 2 => up o 2 (wrap64 x)
  | 3 => up o 4 (wrap64 x)
  | 4 => up o 5 (wrap64 x)
  | 5 => up o 6 (wrap64 (o 6 + wrap64 x))
  | 6 => up o 6 (wrap64 (o 6 + wrap64 (wrap64 x * 16)))
  | p + 7 => up o (7 + p) x
set_option maxHeartbeats 1000000 in
theorem put_0 (w : World) (q : Nat) (o : Nat → Int) (x : Int) (h : OrdAt w q o) :
    Calls Try.prog 17 #[.pointer (some ⟨q, 0, none⟩), .int .i64 0, .int .u64 x] w fun e w' => e = .returned (.tuple #[]) ∧ OrdAt w' q (putF 0 x o) ∧ OneOnly q w w' := by
  obtain ⟨c0, c1, c2, c3, c4, c5, c6, c7, c8, c9, c10, c11⟩ := h.cells
  have HF := h.free
  have H := Lib.hid h
  clear h
  go_enter Try.func17, Try.ntmps17
  go_wp2
  go_end0
  exact ⟨rfl, H.out, OneOnly.refl⟩
set_option maxHeartbeats 1000000 in
theorem put_1 (w : World) (q : Nat) (o : Nat → Int) (x : Int) (h : OrdAt w q o) :
    Calls Try.prog 17 #[.pointer (some ⟨q, 0, none⟩), .int .i64 1, .int .u64 x] w fun e w' => e = .returned (.tuple #[]) ∧ OrdAt w' q (putF 1 x o) ∧ OneOnly q w w' := by
  obtain ⟨c0, c1, c2, c3, c4, c5, c6, c7, c8, c9, c10, c11⟩ := h.cells
  have HF := h.free
  have H := Lib.hid h
  clear h
  go_enter Try.func17, Try.ntmps17
  go_wp2
  go_end0
  exact ⟨rfl, (H.out.set 1 _ rfl), OneOnly.refl.set _ _⟩
set_option maxHeartbeats 1000000 in
theorem put_2 (w : World) (q : Nat) (o : Nat → Int) (x : Int) (h : OrdAt w q o) :
    Calls Try.prog 17 #[.pointer (some ⟨q, 0, none⟩), .int .i64 2, .int .u64 x] w fun e w' => e = .returned (.tuple #[]) ∧ OrdAt w' q (putF 2 x o) ∧ OneOnly q w w' := by
  obtain ⟨c0, c1, c2, c3, c4, c5, c6, c7, c8, c9, c10, c11⟩ := h.cells
  have HF := h.free
  have H := Lib.hid h
  clear h
  go_enter Try.func17, Try.ntmps17
  go_wp2
  go_end0
  exact ⟨rfl, (H.out.set 2 _ rfl), OneOnly.refl.set _ _⟩
set_option maxHeartbeats 1000000 in
theorem put_3 (w : World) (q : Nat) (o : Nat → Int) (x : Int) (h : OrdAt w q o) :
    Calls Try.prog 17 #[.pointer (some ⟨q, 0, none⟩), .int .i64 3, .int .u64 x] w fun e w' => e = .returned (.tuple #[]) ∧ OrdAt w' q (putF 3 x o) ∧ OneOnly q w w' := by
  obtain ⟨c0, c1, c2, c3, c4, c5, c6, c7, c8, c9, c10, c11⟩ := h.cells
  have HF := h.free
  have H := Lib.hid h
  clear h
  go_enter Try.func17, Try.ntmps17
  go_wp2
  go_end0
  exact ⟨rfl, (H.out.set 4 _ rfl), OneOnly.refl.set _ _⟩
set_option maxHeartbeats 1000000 in
theorem put_4 (w : World) (q : Nat) (o : Nat → Int) (x : Int) (h : OrdAt w q o) :
    Calls Try.prog 17 #[.pointer (some ⟨q, 0, none⟩), .int .i64 4, .int .u64 x] w fun e w' => e = .returned (.tuple #[]) ∧ OrdAt w' q (putF 4 x o) ∧ OneOnly q w w' := by
  obtain ⟨c0, c1, c2, c3, c4, c5, c6, c7, c8, c9, c10, c11⟩ := h.cells
  have HF := h.free
  have H := Lib.hid h
  clear h
  go_enter Try.func17, Try.ntmps17
  go_wp2
  go_end0
  exact ⟨rfl, (H.out.set 5 _ rfl), OneOnly.refl.set _ _⟩
set_option maxHeartbeats 1000000 in
theorem put_5 (w : World) (q : Nat) (o : Nat → Int) (x : Int) (h : OrdAt w q o) :
    Calls Try.prog 17 #[.pointer (some ⟨q, 0, none⟩), .int .i64 5, .int .u64 x] w fun e w' => e = .returned (.tuple #[]) ∧ OrdAt w' q (putF 5 x o) ∧ OneOnly q w w' := by
  obtain ⟨c0, c1, c2, c3, c4, c5, c6, c7, c8, c9, c10, c11⟩ := h.cells
  have HF := h.free
  have H := Lib.hid h
  clear h
  go_enter Try.func17, Try.ntmps17
  go_wp2
  go_region
  all_goals go_wp2
  go_end0
  exact ⟨rfl, (H.out.set 6 _ rfl), (OneOnly.refl.set _ _).drew⟩
set_option maxHeartbeats 1000000 in
theorem put_6 (w : World) (q : Nat) (o : Nat → Int) (x : Int) (h : OrdAt w q o) :
    Calls Try.prog 17 #[.pointer (some ⟨q, 0, none⟩), .int .i64 6, .int .u64 x] w fun e w' => e = .returned (.tuple #[]) ∧ OrdAt w' q (putF 6 x o) ∧ OneOnly q w w' := by
  obtain ⟨c0, c1, c2, c3, c4, c5, c6, c7, c8, c9, c10, c11⟩ := h.cells
  have HF := h.free
  have H := Lib.hid h
  clear h
  go_enter Try.func17, Try.ntmps17
  go_wp2
  go_region
  all_goals go_wp2
  go_end0
  exact ⟨rfl, (H.out.set 6 _ rfl), (OneOnly.refl.set _ _).drew⟩
set_option maxHeartbeats 1000000 in
theorem put_7 (w : World) (q : Nat) (o : Nat → Int) (x : Int) (h : OrdAt w q o) :
    Calls Try.prog 17 #[.pointer (some ⟨q, 0, none⟩), .int .i64 7, .int .u64 x] w fun e w' => e = .returned (.tuple #[]) ∧ OrdAt w' q (putF 7 x o) ∧ OneOnly q w w' := by
  obtain ⟨c0, c1, c2, c3, c4, c5, c6, c7, c8, c9, c10, c11⟩ := h.cells
  have HF := h.free
  have H := Lib.hid h
  clear h
  go_enter Try.func17, Try.ntmps17
  go_wp2
  go_end0
  exact ⟨rfl, (H.out.set 7 _ rfl), OneOnly.refl.set _ _⟩
set_option maxHeartbeats 1000000 in
theorem put_8 (w : World) (q : Nat) (o : Nat → Int) (x : Int) (h : OrdAt w q o) :
    Calls Try.prog 17 #[.pointer (some ⟨q, 0, none⟩), .int .i64 8, .int .u64 x] w fun e w' => e = .returned (.tuple #[]) ∧ OrdAt w' q (putF 8 x o) ∧ OneOnly q w w' := by
  obtain ⟨c0, c1, c2, c3, c4, c5, c6, c7, c8, c9, c10, c11⟩ := h.cells
  have HF := h.free
  have H := Lib.hid h
  clear h
  go_enter Try.func17, Try.ntmps17
  go_wp2
  go_end0
  exact ⟨rfl, (H.out.set 8 _ rfl), OneOnly.refl.set _ _⟩
set_option maxHeartbeats 1000000 in
theorem put_9 (w : World) (q : Nat) (o : Nat → Int) (x : Int) (h : OrdAt w q o) :
    Calls Try.prog 17 #[.pointer (some ⟨q, 0, none⟩), .int .i64 9, .int .u64 x] w fun e w' => e = .returned (.tuple #[]) ∧ OrdAt w' q (putF 9 x o) ∧ OneOnly q w w' := by
  obtain ⟨c0, c1, c2, c3, c4, c5, c6, c7, c8, c9, c10, c11⟩ := h.cells
  have HF := h.free
  have H := Lib.hid h
  clear h
  go_enter Try.func17, Try.ntmps17
  go_wp2
  go_end0
  exact ⟨rfl, (H.out.set 9 _ rfl), OneOnly.refl.set _ _⟩
set_option maxHeartbeats 1000000 in
theorem put_10 (w : World) (q : Nat) (o : Nat → Int) (x : Int) (h : OrdAt w q o) :
    Calls Try.prog 17 #[.pointer (some ⟨q, 0, none⟩), .int .i64 10, .int .u64 x] w fun e w' => e = .returned (.tuple #[]) ∧ OrdAt w' q (putF 10 x o) ∧ OneOnly q w w' := by
  obtain ⟨c0, c1, c2, c3, c4, c5, c6, c7, c8, c9, c10, c11⟩ := h.cells
  have HF := h.free
  have H := Lib.hid h
  clear h
  go_enter Try.func17, Try.ntmps17
  go_wp2
  go_end0
  exact ⟨rfl, (H.out.set 10 _ rfl), OneOnly.refl.set _ _⟩
set_option maxHeartbeats 1000000 in
theorem put_11 (w : World) (q : Nat) (o : Nat → Int) (x : Int) (h : OrdAt w q o) :
    Calls Try.prog 17 #[.pointer (some ⟨q, 0, none⟩), .int .i64 11, .int .u64 x] w fun e w' => e = .returned (.tuple #[]) ∧ OrdAt w' q (putF 11 x o) ∧ OneOnly q w w' := by
  obtain ⟨c0, c1, c2, c3, c4, c5, c6, c7, c8, c9, c10, c11⟩ := h.cells
  have HF := h.free
  have H := Lib.hid h
  clear h
  go_enter Try.func17, Try.ntmps17
  go_wp2
  go_end0
  exact ⟨rfl, (H.out.set 11 _ rfl), OneOnly.refl.set _ _⟩
end Go.Proofs.Ytahagcghbeeajaa
