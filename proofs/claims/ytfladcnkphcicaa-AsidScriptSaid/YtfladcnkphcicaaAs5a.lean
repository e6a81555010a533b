/- A drawn region inside a round of a range over a function, from the plain law of all orders. -/
import Derived.Test.YtfladcnkphcicaaAs4
import Derived.OrdersHeld
import Derived.OrdersIn
import Derived.Test.YtfladcnkphcicaaStillIn
namespace Go.Proofs.Ytfladcnkphcicaa
set_option linter.unusedVariables false
set_option linter.unusedSimpArgs false
open Go
def QsN (Q : Exit → Act → World → Prop) : Exit → Act → World → Prop
  | .normal, a, w => Q .normal a w
  | _, _, _ => False
section
variable {P : Program} {ops : Array Oper} {md : Region.Mode} {n l : Nat} {Q : Exit → Act → World → Prop}
theorem wpIn_of_wpN {o : Oper} (hd : noDefer o = true) {a : Act} {w : World} {K K' : Act → World → Prop} (h : ∀ a w, K a w → K' a w) (hh : o.wp P a w K (QsN Q)) : o.wpIn (Fence.wide.inRound l) n P a w K' (QsN Q) := by
  refine ⟨fun f hf => trivial, ?_⟩
  rw [Oper.semAt_eq _ _ _ (noDefer_spec hd)]
  unfold Oper.wp at hh
  generalize (execOp a.eval o).run P w = r at *
  cases r with
  | ok x w' =>
    cases x <;> simp only [Oper.upon] at hh <;> simp only [Oper.uponIn]
    case enter f args =>
      refine ⟨fun h => (by cases h), ?_⟩
      refine CallsIn.mono (show CallsIn (Fence.wide.inRound l) (n - 1) P f args w' _ from callsIn_wide.2 hh) ?_
      intro e w'' he
      cases e <;> first | exact h _ _ he | exact he
    case row row args =>
      refine ⟨fun h => (by cases h), ?_⟩
      refine RowsIn.mono (show RowsIn (Fence.wide.inRound l) (n - 1) P row args w' _ from fun c cs _ => let ⟨v, w2, r, s⟩ := hh c cs; ⟨v, w2, r, stepsIn_wide.2 s⟩) ?_
      intro e w'' he
      exact h _ _ he
    all_goals exact h _ _ hh
  | halt x w' => cases x <;> simp only [Oper.upon, QsN] at hh
theorem wpOpIn_of_N (hd : ∀ (j : Nat) (o : Oper), ops[j]? = some o → noDefer o = true) {i : Nat} {a : Act} {w : World} {K K' : Act → World → Prop} (h : ∀ a w, K a w → K' a w) (hh : wpOp P ops (QsN Q) i K a w) :
    wpOpIn (Fence.wide.inRound l) n P ops (QsN Q) i K' a w := by
  unfold wpOp at hh
  unfold wpOpIn
  split
  · rename_i ho; simp only [ho] at hh; exact h _ _ hh
  · rename_i o ho
    simp only [ho] at hh
    split
    · rename_i hw
      simp only [hw, if_true] at hh
      rcases hh with hh | ⟨_, hl⟩
      · exact wpIn_of_wpN (hd _ _ ho) h hh
      · obtain ⟨a, w, hl⟩ := hl
        exact hl.elim
    · rename_i hw
      rw [if_neg hw] at hh
      exact ⟨fun f hf => trivial, h _ _ hh⟩
theorem wpAnyIn_of_any (hd : ∀ (j : Nat) (o : Oper), ops[j]? = some o → noDefer o = true) : ∀ (f : Nat) (listed : Array Bool) (a : Act) (w : World), wpAny P md ops (QsN Q) f listed a w → wpAnyIn (Fence.wide.inRound l) n P md ops (QsN Q) f listed a w
  | 0, listed, a, w, h => h
  | f + 1, listed, a, w, h => ⟨h.1, fun i hi => wpOpIn_of_N hd (fun a' w' h' => wpAnyIn_of_any hd f _ a' w' h') (h.2 i hi)⟩
theorem wpIn_region_of_any {id : Nat} {a : Act} {w : World} {ls : List Oper} (hm : P.follows .mixedOrders = true) (hd : ls.all noDefer = true)
    (h : wpAny P .any ls.toArray (QsN Q) ls.length (Array.replicate ls.length false) a w.drew) : (Code.region id ls.toArray true).wpIn (Fence.wide.inRound l) n P Q a w := by
  refine wpIn_mono (Q := QsN Q) (wpIn_region_any hm (wpAnyIn_of_any (fun j o ho => List.all_eq_true.1 hd o (List.mem_of_getElem? (by simpa using ho))) _ _ _ _ (by simpa using h))) ?_
  intro e a w he
  cases e <;> first | exact he | exact he.elim
theorem wpOp_put {i : Nat} {o : Oper} {a : Act} {w W2 : World} {K : Act → World → Prop} (ho : ops[i]? = some o) (hw : Region.wanted o (yielded ops a.tmps) = true)
    (hrun : (execOp a.eval o).run P w = .ok .skip W2) (h : K (a.put o.dst undef) W2) : wpOp P ops Q i K a w := by
  unfold wpOp
  simp only [ho, hw, if_true]
  refine .inl ?_
  unfold Oper.wp
  rw [hrun]
  exact h
end
end Go.Proofs.Ytfladcnkphcicaa
