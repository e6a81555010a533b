/- A drawn region of loads and of calls that make memory: one walk, in the order of the text. Over Base. -/
import Derived.Test.YtfladcnkphcicaaBase
import Derived.BigQuiet
namespace Go.Proofs.Ytfladcnkphcicaa
set_option linter.unusedVariables false
set_option linter.unusedSimpArgs false
open Go.ChangeShapes Go.WideShapes Go.ChangeAt Go.RowKit

def KeptQ (n : Nat) (a b : World) : Prop := Below n a b ∧ n ≤ b.heap.size
theorem KeptQ.refl {n : Nat} {a : World} (h : n ≤ a.heap.size) : KeptQ n a a := ⟨Below.refl _ _, h⟩
theorem KeptQ.drew {n : Nat} {a b : World} (h : KeptQ n a b) : KeptQ n a b.drew := ⟨h.1.drew, h.2⟩
theorem KeptQ.drewN {n : Nat} {a b : World} (h : KeptQ n a b) (k : Nat) : KeptQ n a (b.drewN k) := ⟨below_drewN h.1 k, by rw [World.heap_drewN]; exact h.2⟩
theorem KeptQ.call {n : Nat} {a b c : World} (h : KeptQ n a b) (k : Below b.heap.size b c) : KeptQ n a c := ⟨h.1.trans (k.mono h.2), Nat.le_trans h.2 k.size⟩
theorem KeptQ.below {n m : Nat} {W a b : World} (h : KeptQ n a b) (hm : m ≤ n) (B : Below m W a) : Below m W b := B.trans (h.1.mono hm)
section
variable {P : Program} {ops : Array Oper} {rest : List Oper} {o : Oper} {a : Act} {W : World} {m : Nat} {C : World → Prop}
theorem wp_region_keptQ {id : Nat} {Q : Exit → Act → World → Prop} {w : World} {l : List Oper} (m : Nat) (W : World) (hm : P.follows .mixedOrders = true) (hB : Region.lexB .any l.toArray = true) (hK : KeptQ m W w)
    (h : wpQuiet P l.toArray (KeptQ m W) (fun a' => ∀ w', KeptQ m W w' → Q .normal a' w') l a) : (Code.region id l.toArray true).wp P Q a w :=
  wp_region_quiet (C := KeptQ m W) hm hB hK.drew (by simpa using h)
theorem quietQ_load_cell {K : Act → Prop} (ty : TypeId) (x : Operand) (ho : o.op = .load ty x) (p : Addr) (hx : a.eval x = .pointer (some p)) (v : Value) (hc : ∀ w, C w → w.cell? p = some v)
    (d : TypeDesc) (hu : P.underlying ty = some d) (hd : (match d with | .struct _ | .array _ _ => true | _ => false) = false)
    (hk : K (a.put o.dst v)) : o.quiet P a C K := by
  refine ⟨_, fun w hw => ?_, hk⟩
  have hcw := hc w hw
  have hrun : (loadVar ty p).run P w = .ok v w := by
    have hagg : (isAgg ty).run P w = .ok false w := by
      unfold isAgg
      rw [Sem.run_bind, run_underlying hu w]
      cases d <;> simp_all
    simp [loadVar, Sem.run_bind, hagg, hcw]
  unfold Oper.quietAt execOp
  simp only [ho, hx, Instr.loadAt, Instr.sureAddr, Sem.run_bind, Sem.run_pure, Result.andThen_ok, hrun]
  exact ⟨rfl, rfl⟩
end
end Go.Proofs.Ytfladcnkphcicaa
