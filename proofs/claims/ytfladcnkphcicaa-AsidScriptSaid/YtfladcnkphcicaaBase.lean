/- Small lemmas that the walks of every seat use. -/
import Derived.Test.YtfladcnkphcicaaFrame
import Derived.Lib.Hide
import Derived.Deep.QuietTactic
import Derived.BigQuiet
import Derived.IntWalk
namespace Go.Proofs.Ytfladcnkphcicaa
set_option linter.unusedVariables false
open Go.ChangeShapes Go.WideShapes Go.ChangeAt Go.RowKit

theorem ret_bool {a b : Bool} (h : a = b) : Ending.returned (.bool a) = .returned (.bool b) := by rw [h]
theorem ret_int {k : IntKind} {a b : Int} (h : a = b) : Ending.returned (.int k a) = .returned (.int k b) := by rw [h]
theorem same_q {P : Program} {f : FuncId} {args : Array Value} {w : World} {v : Value} (h : Calls P f args w fun e w' => e = .returned v ∧ w = w') : Calls P f args w fun e w' => e = .returned v ∧ w' = w := h.mono fun _ _ ⟨a, b⟩ => ⟨a, b.symm⟩
theorem bcell {W w1 : World} (hb : Below W.heap.size W w1) : (∀ b o, b < W.heap.size → w1.cell? ⟨b, o, none⟩ = W.cell? ⟨b, o, none⟩) ∧ (∀ b o, b < W.heap.size → w1.frozen? ⟨b, o, none⟩ = W.frozen? ⟨b, o, none⟩) :=
  ⟨fun b o h => hb.cell (p := ⟨b, o, none⟩) h, fun b o h => hb.frozen (p := ⟨b, o, none⟩) h⟩
theorem below_drewN {B : Nat} {a b : World} (h : Below B a b) (k : Nat) : Below B a (b.drewN k) := by
  induction k with
  | zero => exact h
  | succ k ih => exact ih.drew
/-- What a call keeps: blocks below n are as they were, and are there. -/
def Kept (n : Nat) (a b : World) : Prop := Below n a b ∧ n ≤ b.heap.size
theorem Kept.refl {n : Nat} {a : World} (h : n ≤ a.heap.size) : Kept n a a := ⟨Below.refl _ _, h⟩
theorem Kept.drew {n : Nat} {a b : World} (h : Kept n a b) : Kept n a b.drew := ⟨h.1.drew, h.2⟩
theorem Kept.drewN {n : Nat} {a b : World} (h : Kept n a b) (k : Nat) : Kept n a (b.drewN k) := ⟨below_drewN h.1 k, by rw [World.heap_drewN]; exact h.2⟩
theorem Kept.alloc {n : Nat} {a b : World} (h : Kept n a b) (o : Obj) : Kept n a (b.alloc o) := ⟨h.1.alloc h.2 o, by simp; have := h.2; omega⟩
theorem Kept.call {n : Nat} {a b c : World} (h : Kept n a b) (k : Below b.heap.size b c) : Kept n a c := ⟨h.1.trans (k.mono h.2), Nat.le_trans h.2 k.size⟩
theorem Kept.cell {n : Nat} {a b : World} {o k : Nat} {v : Option Value} (h : Kept n a b) (hk : k < n) (q : a.cell? ⟨k, o, none⟩ = v) : b.cell? ⟨k, o, none⟩ = v := (h.1.cell (p := ⟨k, o, none⟩) hk).trans q
theorem Kept.frozen {n : Nat} {a b : World} {o k : Nat} {v : Bool} (h : Kept n a b) (hk : k < n) (q : a.frozen? ⟨k, o, none⟩ = v) : b.frozen? ⟨k, o, none⟩ = v := (h.1.frozen (p := ⟨k, o, none⟩) hk).trans q
theorem Kept.below {n m : Nat} {W a b : World} (h : Kept n a b) (hm : m ≤ n) (B : Below m W a) : Below m W b := B.trans (h.1.mono hm)
theorem Kept.lt {n k : Nat} {a b : World} (h : Kept n a b) (hk : k < n) : k < b.heap.size := Nat.lt_of_lt_of_le hk h.2
theorem cell_box {W : World} {B : Nat} {v : Value} {t : TypeId} (h : W.heap[B]? = some (.cells #[v] t (0, 0))) : W.cell? ⟨B, 0, none⟩ = some v ∧ W.frozen? ⟨B, 0, none⟩ = false := by
  constructor <;> simp [World.cell?, World.frozen?, h]
end Go.Proofs.Ytfladcnkphcicaa
