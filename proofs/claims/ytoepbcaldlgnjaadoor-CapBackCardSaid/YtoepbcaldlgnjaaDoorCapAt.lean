/- A capability that lies in a block of its own. -/
import Derived.Test.YtoepbcaldlgnjaaDoorCapKept
namespace Go.Proofs.YtoepbcaldlgnjaaDoor
set_option linter.unusedVariables false
open Go.ChangeShapes Go.WideShapes Go.ChangeAt Go.RowKit

/-- The cells of a capability that lies in a block of its own. -/
def capAt (w : World) (k : Nat) (a b c d e f g h : Int) : Prop :=
  w.cell? ⟨k, 0, none⟩ = some (.int .i64 a) ∧ w.cell? ⟨k, 1, none⟩ = some (.int .i64 b) ∧ w.cell? ⟨k, 2, none⟩ = some (.int .i64 c) ∧ w.cell? ⟨k, 3, none⟩ = some (.int .u64 d) ∧ w.cell? ⟨k, 4, none⟩ = some (.int .i64 e) ∧ w.cell? ⟨k, 5, none⟩ = some (.int .i64 f) ∧ w.cell? ⟨k, 6, none⟩ = some (.int .i64 g) ∧ w.cell? ⟨k, 7, none⟩ = some (.int .i64 h)
theorem capAt.kept {n k : Nat} {w w' : World} {a b c d e f g h : Int} (q : capAt w k a b c d e f g h) (hk : k < n) (h' : Kept n w w') : capAt w' k a b c d e f g h :=
  ⟨h'.cell hk q.1, h'.cell hk q.2.1, h'.cell hk q.2.2.1, h'.cell hk q.2.2.2.1, h'.cell hk q.2.2.2.2.1, h'.cell hk q.2.2.2.2.2.1, h'.cell hk q.2.2.2.2.2.2.1, h'.cell hk q.2.2.2.2.2.2.2⟩
theorem capAt_new (w : World) (T : TypeId) (a b c d e f g h : Int) : capAt (w.alloc (.cells #[.int .i64 a, .int .i64 b, .int .i64 c, .int .u64 d, .int .i64 e, .int .i64 f, .int .i64 g, .int .i64 h] T)) w.heap.size a b c d e f g h := by
  refine ⟨?_, ?_, ?_, ?_, ?_, ?_, ?_, ?_⟩
  all_goals simp
theorem capAt.call {k : Nat} {w w' : World} {a b c d e f g h : Int} (q : capAt w k a b c d e f g h) (hk : k < w.heap.size) (hb : Below w.heap.size w w') : capAt w' k a b c d e f g h :=
  q.kept hk ⟨hb, hb.size⟩
theorem capAt.alloc {k : Nat} {w : World} {a b c d e f g h : Int} (q : capAt w k a b c d e f g h) (hk : k < w.heap.size) (o : Obj) : capAt (w.alloc o) k a b c d e f g h :=
  q.kept hk ((Kept.refl (Nat.le_refl _)).alloc o)
end Go.Proofs.YtoepbcaldlgnjaaDoor
