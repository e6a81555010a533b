/- What a call keeps, handed on through a region that draws: blocks below n are as they were, and are there. -/
import Derived.Test.YtoepbcaldlgnjaaDoorCap
import Derived.Deep.RegionHeld3
namespace Go.Proofs.YtoepbcaldlgnjaaDoor
set_option linter.unusedVariables false
open Go.ChangeShapes Go.WideShapes Go.ChangeAt Go.RowKit

def Kept (n : Nat) (a b : World) : Prop := Below n a b ∧ n ≤ b.heap.size
theorem Kept.refl {n : Nat} {a : World} (h : n ≤ a.heap.size) : Kept n a a := ⟨Below.refl _ _, h⟩
theorem Kept.drew {n : Nat} {a b : World} (h : Kept n a b) : Kept n a b.drew := ⟨h.1.drew, h.2⟩
theorem Kept.drewN {n : Nat} {a b : World} (h : Kept n a b) (k : Nat) : Kept n a (b.drewN k) := ⟨below_drewN h.1 k, by rw [World.heap_drewN]; exact h.2⟩
theorem Kept.alloc {n : Nat} {a b : World} (h : Kept n a b) (o : Obj) : Kept n a (b.alloc o) := ⟨h.1.alloc h.2 o, by simp; have := h.2; omega⟩
theorem Kept.call {n : Nat} {a b c : World} (h : Kept n a b) (k : Below b.heap.size b c) : Kept n a c := ⟨h.1.trans (k.mono h.2), Nat.le_trans h.2 k.size⟩
theorem Kept.cell {n : Nat} {a b : World} {o k : Nat} {v : Option Value} (h : Kept n a b) (hk : k < n) (q : a.cell? ⟨k, o, none⟩ = v) : b.cell? ⟨k, o, none⟩ = v := (h.1.cell (p := ⟨k, o, none⟩) hk).trans q
theorem Kept.frozen {n : Nat} {a b : World} {o k : Nat} {v : Bool} (h : Kept n a b) (hk : k < n) (q : a.frozen? ⟨k, o, none⟩ = v) : b.frozen? ⟨k, o, none⟩ = v := (h.1.frozen (p := ⟨k, o, none⟩) hk).trans q
theorem Kept.below {n m : Nat} {W a b : World} (h : Kept n a b) (hm : m ≤ n) (B : Below m W a) : Below m W b := B.trans (h.1.mono hm)
theorem Kept.lt {n k : Nat} {a b : World} (h : Kept n a b) (hk : k < n) : k < b.heap.size := Nat.lt_of_lt_of_le hk h.2
end Go.Proofs.YtoepbcaldlgnjaaDoor
