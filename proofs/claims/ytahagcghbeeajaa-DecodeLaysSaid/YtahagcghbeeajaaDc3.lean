/- package decode: formsOf. -/
import Derived.Test.YtahagcghbeeajaaDc2
import Derived.Test.YtahagcghbeeajaaLink
import Derived.Laws.AppendOwn
import Derived.Deep.MidRow
import Derived.Lib.SliceRun
import Derived.Deep.MidRow
namespace Go.Proofs.Ytahagcghbeeajaa
set_option linter.unusedVariables false
set_option linter.unusedSimpArgs false
open Go.ChangeShapes Go.WideShapes Go.ChangeAt Go.RowKit Go.Shelf

abbrev Frm := Nat × Int × Int
def formsL (op : Nat) : Option (List Frm) :=
  match op with
  | 1 => some [(1, 0, 4095), (3, 0, 18446744073709551615), (4, 0, 18446744073709551615), (2, 0, 4095), (5, 0, 15), (6, 1, 4)]
  | 2 => some [(1, 0, 4095), (2, 0, 4095), (3, 0, 7)]
  | 3 => some [(1, 0, 4095), (2, 0, 4095), (3, 0, 7), (7, 0, 18446744073709551615)]
  | 4 => some [(1, 0, 4095), (2, 0, 4095)]
  | 5 => some [(1, 0, 4095), (2, 0, 4095)]
  | 6 => some [(1, 0, 4095)]
  | 7 => some [(1, 0, 4095), (3, 1, 64)]
  | 8 => some [(1, 0, 4095), (2, 0, 4095), (7, 0, 18446744073709551615)]
  | 9 => some [(1, 0, 4095)]
  | 10 => some [(1, 0, 4095), (2, 0, 4095), (7, 0, 18446744073709551615), (3, 0, 7)]
  | 11 => some [(1, 0, 4095)]
  | 12 => some [(1, 0, 4095), (2, 0, 4095)]
  | 13 => some [(1, 0, 4095), (2, 0, 4095)]
  | 14 => some [(1, 0, 4095), (3, 0, 4096), (8, 0, 18446744073709551615), (9, 0, 18446744073709551615), (10, 0, 18446744073709551615), (11, 0, 18446744073709551615)]
  | 15 => some [(1, 0, 4095), (3, 0, 4096), (8, 0, 18446744073709551615), (9, 0, 18446744073709551615), (10, 0, 18446744073709551615), (11, 0, 18446744073709551615)]
  | 16 => some [(1, 0, 4095), (3, 0, 4096)]
  | 17 => some [(8, 0, 18446744073709551615), (9, 0, 18446744073709551615), (10, 0, 18446744073709551615), (11, 0, 18446744073709551615)]
  | 18 => some []
  | 19 => some [(1, 0, 4095), (3, 0, 2), (2, 0, 4095)]
  | 20 => some [(1, 0, 4095), (3, 0, 2)]
  | 21 => some [(1, 0, 4095)]
  | 22 => some [(1, 0, 4095)]
  | 23 => some [(1, 0, 4095), (3, 0, 7)]
  | _ => none
/-- Where a list of forms lies. -/
def FormsAt (w : World) (v : Value) (L : List Frm) : Prop := ∃ q c, v = .slice (some ⟨q, 0, none⟩) L.length c ∧ L.length ≤ c ∧ q < w.heap.size ∧ ∀ i f, L[i]? = some f → w.cell? ⟨q, 3 * i, none⟩ = some (.int .i64 f.1) ∧ w.cell? ⟨q, 3 * i + 1, none⟩ = some (.int .u64 f.2.1) ∧ w.cell? ⟨q, 3 * i + 2, none⟩ = some (.int .u64 f.2.2)
def frmC : List Frm → List Value
  | [] => []
  | f :: L => .int .i64 f.1 :: .int .u64 f.2.1 :: .int .u64 f.2.2 :: frmC L
theorem frmC_get : ∀ (L : List Frm) (i : Nat) (f : Frm), L[i]? = some f → (frmC L)[3 * i]? = some (.int .i64 f.1) ∧ (frmC L)[3 * i + 1]? = some (.int .u64 f.2.1) ∧ (frmC L)[3 * i + 2]? = some (.int .u64 f.2.2)
  | [], i, f, h => by simp at h
  | g :: L, 0, f, h => by simp at h; subst h; exact ⟨rfl, rfl, rfl⟩
  | g :: L, i + 1, f, h => by
    have := frmC_get L i f (by simpa using h)
    have e0 : 3 * (i + 1) = 3 * i + 3 := by omega
    have e1 : 3 * (i + 1) + 1 = (3 * i + 1) + 3 := by omega
    have e2 : 3 * (i + 1) + 2 = (3 * i + 2) + 3 := by omega
    rw [show (frmC (g :: L)) = Value.int .i64 g.1 :: .int .u64 g.2.1 :: .int .u64 g.2.2 :: frmC L from rfl, e1, e2, e0]
    exact this
theorem forms_new (w : World) (L : List Frm) (c : Nat) (t : TypeId) (h : L.length ≤ c) : FormsAt (w.alloc (.cells (frmC L).toArray t)) (.slice (some ⟨w.heap.size, 0, none⟩) L.length c) L := by
  refine ⟨_, c, rfl, h, by simp, fun i f hf => ?_⟩
  obtain ⟨a, b, d⟩ := frmC_get L i f hf
  have e : ∀ j, (w.alloc (.cells (frmC L).toArray t)).cell? ⟨w.heap.size, j, none⟩ = (frmC L)[j]? := fun j => by
    have := World.alloc_heap_new w (.cells (frmC L).toArray t)
    unfold World.cell?; simp only [this]; simp
  rw [e, e, e]
  exact ⟨a, b, d⟩
def msgA (k : Nat) : Array Value := #[.int .i64 (if 0 < k then 8 else 0), .int .u64 0, .int .u64 (if 0 < k then 18446744073709551615 else 0), .int .i64 (if 1 < k then 9 else 0), .int .u64 0, .int .u64 (if 1 < k then 18446744073709551615 else 0), .int .i64 (if 2 < k then 10 else 0), .int .u64 0, .int .u64 (if 2 < k then 18446744073709551615 else 0), .int .i64 (if 3 < k then 11 else 0), .int .u64 0, .int .u64 (if 3 < k then 18446744073709551615 else 0)]
abbrev frmO (t : Int) (l h : Int) : Obj := .cells #[.int .i64 t, .int .u64 l, .int .u64 h] 53 (0, 0)
theorem row_cell {w : World} {q : Nat} {cs : Array Value} {t : TypeId} {fr : Nat × Nat} (h : w.heap[q]? = some (.cells cs t fr)) (j : Nat) : w.cell? ⟨q, j, none⟩ = cs[j]? := by simp [World.cell?, h]
theorem cell_of_block {W W' : World} {b j : Nat} (h : W'.heap[b]? = W.heap[b]?) : W'.cell? ⟨b, j, none⟩ = W.cell? ⟨b, j, none⟩ := by
  unfold World.cell?
  simp only [h]
/-- formsOf's own blocks. -/
def own7 (w : World) : World := ((((((w.alloc (frmO 1 0 4095)).alloc (frmO 2 0 4095)).alloc (frmO 3 0 4096)).alloc (frmO 3 0 7)).alloc (frmO 7 0 18446744073709551615)).alloc (frmO 3 0 2)).alloc (.cells #[.int .i64 0, .int .u64 0, .int .u64 0, .int .i64 0, .int .u64 0, .int .u64 0, .int .i64 0, .int .u64 0, .int .u64 0, .int .i64 0, .int .u64 0, .int .u64 0] 61)
structure Own6 (B : Nat) (w : World) : Prop where
  a : w.heap[B]? = some (frmO 1 0 4095)
  b : w.heap[B + 1]? = some (frmO 2 0 4095)
  g : w.heap[B + 2]? = some (frmO 3 0 4096)
  k : w.heap[B + 3]? = some (frmO 3 0 7)
  x : w.heap[B + 4]? = some (frmO 7 0 18446744073709551615)
  o : w.heap[B + 5]? = some (frmO 3 0 2)
theorem alloc_old {w : World} {o : Obj} {k : Nat} {x : Option Obj} (h : w.heap[k]? = x) (hk : k < w.heap.size) : (w.alloc o).heap[k]? = x := (Below.heap_alloc _ _ _ hk).trans h
theorem own7_ok (w : World) : Own6 w.heap.size (own7 w) ∧ (own7 w).heap[w.heap.size + 6]? = some (.cells (msgA 0) 61 (0, 0)) ∧ (own7 w).heap.size = w.heap.size + 7 ∧ Below w.heap.size w (own7 w) := by
  have n : ∀ (u : World) (o : Obj) (k : Nat), k = u.heap.size → (u.alloc o).heap[k]? = some o := fun u o k e => e ▸ World.alloc_heap_new u o
  have s : ∀ (u : World) (o : Obj), (u.alloc o).heap.size = u.heap.size + 1 := fun u o => World.size_alloc u o
  unfold own7
  refine ⟨⟨?_, ?_, ?_, ?_, ?_, ?_⟩, ?_, ?_, ?_⟩
  · repeat (first | exact n _ _ _ (by simp; done) | refine alloc_old ?_ (by simp; try omega))
  · repeat (first | exact n _ _ _ (by simp; done) | refine alloc_old ?_ (by simp; try omega))
  · repeat (first | exact n _ _ _ (by simp; done) | refine alloc_old ?_ (by simp; try omega))
  · repeat (first | exact n _ _ _ (by simp; done) | refine alloc_old ?_ (by simp; try omega))
  · repeat (first | exact n _ _ _ (by simp; done) | refine alloc_old ?_ (by simp; try omega))
  · repeat (first | exact n _ _ _ (by simp; done) | refine alloc_old ?_ (by simp; try omega))
  · exact n _ _ _ (by simp)
  · simp
  · exact bal (bal (bal (bal (bal (bal (bal (Below.refl _ _) _) _) _) _) _) _) _
structure MsgI (w0 wr : World) (q k : Nat) : Prop where
  row : wr.heap[q]? = some (.cells (msgA k) 61 (0, 0))
  below : Below q w0 wr
  size : wr.heap.size = w0.heap.size
theorem MsgI.cells {w0 wr : World} {q k : Nat} (h : MsgI w0 wr q k) : ∃ v0 v1 v2 v3 v4 v5 v6 v7 v8 v9 v10 v11, wr.cell? ⟨q, 0, none⟩ = some (.int .i64 v0) ∧ wr.cell? ⟨q, 1, none⟩ = some (.int .u64 v1) ∧ wr.cell? ⟨q, 2, none⟩ = some (.int .u64 v2) ∧ wr.cell? ⟨q, 3, none⟩ = some (.int .i64 v3) ∧ wr.cell? ⟨q, 4, none⟩ = some (.int .u64 v4) ∧ wr.cell? ⟨q, 5, none⟩ = some (.int .u64 v5) ∧ wr.cell? ⟨q, 6, none⟩ = some (.int .i64 v6) ∧ wr.cell? ⟨q, 7, none⟩ = some (.int .u64 v7) ∧ wr.cell? ⟨q, 8, none⟩ = some (.int .u64 v8) ∧ wr.cell? ⟨q, 9, none⟩ = some (.int .i64 v9) ∧ wr.cell? ⟨q, 10, none⟩ = some (.int .u64 v10) ∧ wr.cell? ⟨q, 11, none⟩ = some (.int .u64 v11) := by
  simp only [row_cell h.row]
  exact ⟨_, _, _, _, _, _, _, _, _, _, _, _, rfl, rfl, rfl, rfl, rfl, rfl, rfl, rfl, rfl, rfl, rfl, rfl⟩
theorem MsgI.there {w0 wr : World} {q k : Nat} (h : MsgI w0 wr q k) (o : Nat) (ho : o + 3 ≤ 12) : wr.there q o 3 := by
  intro i hi
  refine ⟨?_, frozen_of_row wr q _ _ _ h.row⟩
  rw [row_cell h.row]
  have e : (msgA k).size = 12 := rfl
  rw [Array.getElem?_eq_getElem (by omega)]
  rfl
theorem MsgI.step {w0 wr : World} {q k : Nat} {i : Nat} {a b c : Value} (h : MsgI w0 wr q k) (e : (((msgA k).setIfInBounds i a).setIfInBounds (i + 1) b).setIfInBounds (i + 2) c = msgA (k + 1)) : MsgI w0 (((wr.setCell ⟨q, i, none⟩ a).setCell ⟨q, i + 1, none⟩ b).setCell ⟨q, i + 2, none⟩ c) q (k + 1) := by
  refine ⟨?_, ((h.below.setCell (Nat.le_refl _) _).setCell (Nat.le_refl _) _).setCell (Nat.le_refl _) _, ?_⟩
  · rw [← e]
    exact Go.heap_setCell_same _ q _ _ _ _ (Go.heap_setCell_same _ q _ _ _ _ (Go.heap_setCell_same wr q _ _ _ _ h.row))
  · simpa using h.size
end Go.Proofs.Ytahagcghbeeajaa
