/- package tlb: drop. -/
import Derived.Test.YtgfidbjhihignaaTkD
import Derived.Stop.RegionWithIn
namespace Go.Proofs.Ytgfidbjhihignaa
set_option linter.unusedVariables false
open Go.RowKit Go.Shelf

attribute [local go_sem] Oper.semAt_some
/-- Where drop's own boxes lie, and what has become of the cache. -/
structure DropAt (w : World) (b : Nat) (S : Nat → TransX × TransX × Int) (out : TransX → Bool) (fv : Value) (pre : List (Nat × Nat)) (W : World) : Prop where
  tlb : TlbAt W b (dropF S out pre).1
  fn : W.cell? ⟨w.heap.size, 0, none⟩ = some fv
  n : W.cell? ⟨w.heap.size + 1, 0, none⟩ = some (.int .i64 ((dropF S out pre).2))
  nz : W.frozen? ⟨w.heap.size + 1, 0, none⟩ = false
  box : W.cell? ⟨w.heap.size + 1 + 1, 0, none⟩ = some (.pointer (some ⟨b, 0, none⟩))
  lt : w.heap.size + 3 ≤ W.heap.size
  only : TlbOnly b w W
theorem DropAt.of_grown {w : World} {b : Nat} {S : Nat → TransX × TransX × Int} {out : TransX → Bool} {fv : Value} (hb : b < w.heap.size) : OwnFrom (w.heap.size + 3) (DropAt w b S out fv) := by
  intro s A B row h hg hr
  have e : ∀ k, k < w.heap.size + 3 → B.heap[k]? = A.heap[k]? := fun k hk => hg.block k (Nat.lt_of_lt_of_le hk h.lt) (fun e => by have := (hr k e.symm).1; omega)
  have sz := hg.size
  exact ⟨h.tlb.of_block sz (e b (by omega)), (cell_of_block (e _ (by omega))).trans h.fn, (cell_of_block (e _ (by omega))).trans h.n, (frozen_of_block (e _ (by omega))).trans h.nz, (cell_of_block (e _ (by omega))).trans h.box, Nat.le_trans h.lt sz,
    ⟨hg.os.trans h.only.os, hg.tape.trans h.only.tape, hg.output.trans h.only.output, Nat.le_trans h.only.size sz, fun k hk hn => (e k (by omega)).trans (h.only.block k hk hn)⟩⟩
end Go.Proofs.Ytgfidbjhihignaa
