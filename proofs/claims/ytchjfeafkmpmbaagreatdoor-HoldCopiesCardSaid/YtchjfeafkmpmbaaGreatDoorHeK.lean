import Derived.Test.YtchjfeafkmpmbaaGreatDoorHe1
namespace Go.Proofs.YtchjfeafkmpmbaaGreatDoor
set_option linter.unusedVariables false
set_option linter.unusedSimpArgs false
set_option maxRecDepth 100000
set_option maxHeartbeats 8000000
open Go.ChangeShapes Go.WideShapes Go.ChangeAt Go.RowKit Go.Shelf
namespace HdS
open TabS (Cp Sn zC mayC sizS getR getN Two Pr FootP foot_ltP foot_ltR SameS AddRel addSR setN setM rowsS hasS dropSR dropSL heldA hdsC)
variable {W w w' : World} {s : Sh} {hb rhb n n' t : Nat} {L M L' M' : List Sn} {l l2 l' l2' : List Nod} {S T : Nat → Prop}
structure KpM (w1 w5 v : World) : Prop where
 k : SameK (New w1 w5) w5 v
 lt : ∀ k, New w1 w5 k → k < v.heap.size
theorem KpM.refl (w1 w5 : World) : KpM w1 w5 w5 := ⟨fun k _ => rfl, fun k h => h.2⟩
theorem KpM.call {w1 w5 v v' : World} (h : KpM w1 w5 v) (hb : Below v.heap.size v v') : KpM w1 w5 v' :=
 ⟨fun k q => (hb.block k (h.lt k q)).trans (h.k k q), fun k q => Nat.lt_of_lt_of_le (h.lt k q) hb.size⟩
theorem KpM.turn {w0 w1 w5 v v' : World} (h : KpM w1 w5 v) (hk : SameK (New w1 w5) v v') (hh : Hd w0 s hb rhb n L M l l2 (New w1 w5) v') : KpM w1 w5 v' :=
 ⟨fun k q => (hk k q).trans (h.k k q), fun k q => hh.lt q⟩
end HdS
end Go.Proofs.YtchjfeafkmpmbaaGreatDoor
