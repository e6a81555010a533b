/- slices.Delete of one int of a row. -/
import Derived.Test.YtmbjaemflmbljaaEnL
import Derived.Sort.OwnSortedInts
import Derived.Lib.OwnBridge
namespace Go.Proofs.Ytmbjaemflmbljaa
set_option linter.unusedVariables false
set_option linter.unusedSimpArgs false
open Go.ChangeShapes Go.WideShapes Go.ChangeAt Go.RowKit Go.Shelf
open Go.Sort Go.Lib

/-- Behind a Delete of one: the row, and all else. -/
theorem put_row {w : World} {B g cap q : Nat} {e : TypeId} {zs ts : List Int} (h : w.ownsRow B e 1 (.slice (some ⟨g, 0, none⟩) zs.length cap) zs.length (zs.map (Value.int .i64))) (ht : ts.length + 1 = zs.length) :
    (putRow (Value.int .i64) (Sort.ahead w q) g 0 (ts ++ [0]).toArray).ownsRow B e 1 (.slice (some ⟨g, 0, none⟩) ts.length cap) ts.length (ts.map (Value.int .i64)) ∧
    w.grownBy (putRow (Value.int .i64) (Sort.ahead w q) g 0 (ts ++ [0]).toArray) (some g) := by
  have e0 : ∀ W : World, grow W #[] = W := fun W => by simp [grow]
  constructor
  · rcases h.2 with ⟨h0, _⟩ | ⟨g', cap', cur, hv, hg, hb, hn, hcap, hs, _⟩
    · cases h0
    cases hv
    have hh := heap_sortedI (n := q) (os := #[]) (ts ++ [0]).toArray hb
    rw [e0] at hh
    refine ⟨by simp, .inr ⟨g, cap, _, rfl, hg, hh, by omega, hcap, by simp [putCells, hs], ?_⟩⟩
    have := take_putCellsI cur (ts ++ [0]) (by simp; omega)
    rw [Nat.mul_one]
    have e2 : ts.map (Value.int .i64) = ((ts ++ [0]).map (Value.int .i64)).take ts.length := by simp
    rw [e2, ← this, List.take_take]
    congr 1
    simp
  · have := grownBy_sortedI (w := w) (g := g) (n := q) (os := #[]) (ts ++ [0]).toArray
    rw [e0] at this
    exact this
theorem delete_row (w : World) (B g cap n : Nat) (i j : Int) (zs l1 l2 : List Int) (x : Int) (hz : zs = l1 ++ x :: l2) (hn : n = zs.length) (hi : i = (l1.length : Int)) (hj : j = (l1.length : Int) + 1)
    (h : w.ownsRow B 3 1 (.slice (some ⟨g, 0, none⟩) zs.length cap) zs.length (zs.map (Value.int .i64))) :
    Calls Try.prog 31 #[.slice (some ⟨g, 0, none⟩) n cap, .int .i64 i, .int .i64 j] w fun e w' => e = .returned (.slice (some ⟨g, 0, none⟩) (l1 ++ l2).length cap) ∧
      w'.ownsRow B 3 1 (.slice (some ⟨g, 0, none⟩) (l1 ++ l2).length cap) (l1 ++ l2).length ((l1 ++ l2).map (Value.int .i64)) ∧ w.grownBy w' (some g) := by
  obtain ⟨g', cap', e1, _, _, hle, hmax, _, hH⟩ := holds_of_ownsRow h (by intro e; cases e)
  cases e1
  have hl : zs.length = l1.length + l2.length + 1 := by rw [hz]; simp; omega
  have hd := delete_any g 0 cap l1.length (l1.length + 1) zs w hH hle (by unfold maxLen at hmax; omega) (by omega) (by omega)
  subst hn hi
  rw [hj, show ((l1.length : Int) + 1) = ((l1.length + 1 : Nat) : Int) by omega]
  refine hd.mono ?_
  rintro e w' ⟨rfl, q, rfl⟩
  have e2 : zs.take l1.length ++ zs.drop (l1.length + 1) = l1 ++ l2 := by
    rw [hz]; simp [List.take_append, List.drop_append]
  have e3 : zs.length - (l1.length + 1 - l1.length) = (l1 ++ l2).length := by simp; omega
  have e4 : l1.length + 1 - l1.length = 1 := by omega
  rw [e3, e4, e2]
  exact ⟨rfl, put_row h (by simp; omega)⟩
end Go.Proofs.Ytmbjaemflmbljaa
