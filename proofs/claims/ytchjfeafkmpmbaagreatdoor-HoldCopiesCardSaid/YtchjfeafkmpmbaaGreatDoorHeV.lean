import Derived.Test.YtchjfeafkmpmbaaGreatDoorHe1
namespace Go.Proofs.YtchjfeafkmpmbaaGreatDoor
set_option linter.unusedVariables false
set_option linter.unusedSimpArgs false
set_option maxRecDepth 100000
set_option maxHeartbeats 8000000
open Go.ChangeShapes Go.WideShapes Go.ChangeAt Go.RowKit Go.Shelf
namespace HdS
open TabS (Cp Sn zC mayC sizS getR getN Two Pr FootP foot_ltP foot_ltR SameS AddRel addSR setN setM rowsS hasS dropSR dropSL heldA hdsC)
variable {W w w' : World} {s : Sh} {hb rhb n n' t : Nat} {L M L' M' : List Sn} {l l2 l' l2' : List Nod} {S T : Nat → Prop}
theorem same_nodes_t {w : World} {u v : Value} {l : List Nod} (hu : NodesAt w u l) (hv : NodesAt w v l) (hn : l.length < 1000000) : Calls Tryz.prog 19 #[u, v] w fun e w' => e = .returned (.bool true) ∧ Below w.heap.size w w' := by
 have := same_nodes w u v l l hu hv hn hn
 rw [decide_eq_true rfl] at this
 refine this.mono ?_
 rintro e w' ⟨he, j, rfl⟩
 exact ⟨he, below_drewN (Below.refl _ _) _⟩
def HeldAt (w : World) (v : Value) (H : List TabS.Hd) : Prop := ∃ a c, v = .slice a H.length c ∧ TabS.HsIs w a H
theorem held_row {w : World} {B : Nat} {v : Value} {H : List TabS.Hd} (h : w.ownsRow B 46 10 v H.length (hdsC H)) : HeldAt w v H := by
 obtain ⟨a, c, rfl, h1, h2⟩ := TabS.hs_of h
 exact ⟨a, c, rfl, TabS.hs_is h⟩
theorem same_held_t {w : World} {u v : Value} {H : List TabS.Hd} (hu : HeldAt w u H) (hv : HeldAt w v H) (hn : H.length < 1000000) : Calls Tryz.prog 18 #[u, v] w fun e w' => e = .returned (.bool true) ∧ Below w.heap.size w w' := by
 obtain ⟨a, c, rfl, h1⟩ := hu
 obtain ⟨b, d, rfl, h2⟩ := hv
 refine (TabS.same_hs w a b c d H h1 h2 hn).mono ?_
 rintro e w' ⟨he, j, rfl⟩
 exact ⟨he, below_drewN (Below.refl _ _) _⟩
theorem row_kept {W W' : World} {B : Nat} {e : TypeId} {s : Nat} {v : Value} {n : Nat} {xs : List Value} (h : W.ownsRow B e s v n xs) (hb : Below W.heap.size W W') : W'.ownsRow B e s v n xs := own_block h fun g hg => hb.block g (h.lt g hg).2
end HdS
end Go.Proofs.YtchjfeafkmpmbaaGreatDoor
