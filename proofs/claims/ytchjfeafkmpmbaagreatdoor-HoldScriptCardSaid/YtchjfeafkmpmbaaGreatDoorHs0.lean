import Derived.Test.YtchjfeafkmpmbaaGreatDoorQku
namespace Go.Proofs.YtchjfeafkmpmbaaGreatDoor
set_option linter.unusedVariables false
set_option linter.unusedSimpArgs false
set_option maxRecDepth 100000
set_option maxHeartbeats 8000000
open Go.ChangeShapes Go.WideShapes Go.ChangeAt Go.RowKit Go.Shelf
namespace HdS
open TabS (Cp Sn zC heldA hdsC)
variable {W w w' : World} {l : List Nod}
theorem same_nodes_t {w : World} {u v : Value} {l : List Nod} (hu : NodesAt w u l) (hv : NodesAt w v l) (hn : l.length < 1000000) : Calls Tryz.prog 19 #[u, v] w fun e w' => e = .returned (.bool true) ∧ Below w.heap.size w w' := by
 have := same_nodes w u v l l hu hv hn hn
 rw [decide_eq_true rfl] at this
 refine this.mono ?_
 rintro e w' ⟨he, j, rfl⟩
 exact ⟨he, below_drewN (Below.refl _ _) _⟩
theorem same_slots_t {w : World} {u v : Value} {l : List Nod} (hu : SlotsAt w u l) (hv : SlotsAt w v l) (hn : l.length < 1000000) : Calls Tryz.prog 25 #[u, v] w fun e w' => e = .returned (.bool true) ∧ Below w.heap.size w w' := by
 have := same_slots w u v l l hu hv hn hn
 rw [decide_eq_true rfl] at this
 refine this.mono ?_
 rintro e w' ⟨he, j, rfl⟩
 exact ⟨he, below_drewN (Below.refl _ _) _⟩
def HeldAt (w : World) (v : Value) (H : List TabS.Hd) : Prop := ∃ a c, v = .slice a H.length c ∧ TabS.HsIs w a H
theorem HeldAt.call {w w' : World} {v : Value} {H : List TabS.Hd} (h : HeldAt w v H) (hb : Below w.heap.size w w') : HeldAt w' v H := by
 obtain ⟨a, c, h1, h2⟩ := h
 exact ⟨a, c, h1, h2.call hb⟩
theorem held_row {w : World} {B : Nat} {v : Value} {H : List TabS.Hd} (h : w.ownsRow B 46 10 v H.length (hdsC H)) : HeldAt w v H := by
 obtain ⟨a, c, rfl, h1, h2⟩ := TabS.hs_of h
 exact ⟨a, c, rfl, TabS.hs_is h⟩
theorem same_held_t {w : World} {u v : Value} {H : List TabS.Hd} (hu : HeldAt w u H) (hv : HeldAt w v H) (hn : H.length < 1000000) : Calls Tryz.prog 18 #[u, v] w fun e w' => e = .returned (.bool true) ∧ Below w.heap.size w w' := by
 obtain ⟨a, c, rfl, h1⟩ := hu
 obtain ⟨b, d, rfl, h2⟩ := hv
 refine (TabS.same_hs w a b c d H h1 h2 hn).mono ?_
 rintro e w' ⟨he, j, rfl⟩
 exact ⟨he, below_drewN (Below.refl _ _) _⟩
theorem row_kept {W W' : World} {B : Nat} {e : TypeId} {s : Nat} {v : Value} {n : Nat} {xs : List Value} (h : W.ownsRow B e s v n xs) (hb : Below W.heap.size W W') : W'.ownsRow B e s v n xs := own_block h fun g hg => hb.block g (h.lt g hg).2
def RwS (N0 : Nat) (w : World) (e : TypeId) (sz : Nat) (r : Value) (n : Nat) (cs : List Value) : Prop := ∃ b, N0 ≤ b ∧ w.ownsRow b e sz r n cs
theorem RwS.call {N0 : Nat} {e : TypeId} {sz : Nat} {r : Value} {n : Nat} {cs : List Value} (h : RwS N0 w e sz r n cs) (hb : Below w.heap.size w w') : RwS N0 w' e sz r n cs := by
 obtain ⟨b, h1, h2⟩ := h
 exact ⟨b, h1, row_kept h2 hb⟩
theorem RwS.held {N0 : Nat} {r : Value} {H : List TabS.Hd} (h : RwS N0 w 46 10 r H.length (hdsC H)) : HeldAt w r H := by
 obtain ⟨b, _, h2⟩ := h
 exact held_row h2
theorem RwS.nodes {N0 : Nat} {r : Value} (h : RwS N0 w 44 3 r l.length (nodsC l)) : NodesAt w r l := by
 obtain ⟨b, _, h2⟩ := h
 exact nodes_row h2
theorem RwS.slots {N0 : Nat} {r : Value} (h : RwS N0 w 30 2 r l.length (slsC l)) : SlotsAt w r l := by
 obtain ⟨b, _, h2⟩ := h
 exact slots_row h2
theorem RwS.row {N0 : Nat} {e : TypeId} {sz : Nat} {r : Value} {n : Nat} {cs : List Value} (h : RwS N0 w e sz r n cs) : w.ownsRow 0 e sz r n cs := by
 obtain ⟨b, _, h2⟩ := h
 exact ⟨h2.1, h2.2.imp id (fun ⟨g, cap, cur, e, _, q⟩ => ⟨g, cap, cur, e, Nat.zero_le _, q⟩)⟩
theorem RwS.ge {N0 : Nat} {e : TypeId} {sz : Nat} {r : Value} {n : Nat} {cs : List Value} (h : RwS N0 w e sz r n cs) {k : Nat} (hk : r.ownBlock = some k) : N0 ≤ k := by
 obtain ⟨b, h1, h2⟩ := h
 exact Nat.le_trans h1 (h2.lt k hk).1
theorem RwS.ty {N0 : Nat} {e : TypeId} {sz : Nat} {r : Value} {n : Nat} {cs : List Value} (h : RwS N0 w e sz r n cs) {k : Nat} (hk : r.ownBlock = some k) : ∃ o, w.heap[k]? = some (.cells o e (0, 0)) := by
 obtain ⟨b, h1, h2⟩ := h
 rcases h2.2 with ⟨rfl, h0⟩ | ⟨g, cap, cur, rfl, hg, hb, _⟩
 ·cases hk
 ·simp only [Value.ownBlock, Option.some.injEq] at hk
  subst hk
  exact ⟨_, hb⟩
theorem RwS.over {N0 : Nat} {e f : TypeId} {sz sy : Nat} {r u : Value} {n m : Nat} {cs ds : List Value} (h : RwS N0 w e sz r n cs) (k : RwS N0 w f sy u m ds) (hef : e ≠ f) (hg : w.grownBy w' u.ownBlock) : RwS N0 w' e sz r n cs := by
 have hty := h
 obtain ⟨b, h1, h2⟩ := h
 refine ⟨b, h1, own_block h2 (fun g hh => hg.block g (h2.lt g hh).2 (fun q => ?_))⟩
 obtain ⟨o1, t1⟩ := hty.ty hh
 obtain ⟨o2, t2⟩ := k.ty q.symm
 rw [t1] at t2
 injection t2 with t2
 injection t2 with _ t3 _
 exact hef t3
theorem RwS.grown {N0 : Nat} {f : TypeId} {sy : Nat} {u : Value} {m : Nat} {ds : List Value} (k : RwS N0 w f sy u m ds) {v0 : World} (hN : v0.heap.size = N0) (hb : Below N0 v0 w) (hg : w.grownBy w' u.ownBlock) : Below N0 v0 w' :=
 ⟨hg.os.trans hb.os, hg.tape.trans hb.tape, hg.output.trans hb.output, Nat.le_trans hb.size hg.size, fun j hj => (hg.block j (Nat.lt_of_lt_of_le hj (hN ▸ hb.size)) (fun q => by have := k.ge q.symm; omega)).trans (hb.block j hj)⟩
end HdS
end Go.Proofs.YtchjfeafkmpmbaaGreatDoor
