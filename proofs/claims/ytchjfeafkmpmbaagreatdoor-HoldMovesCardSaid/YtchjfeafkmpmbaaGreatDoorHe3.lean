import Derived.Test.YtchjfeafkmpmbaaGreatDoorHe1
namespace Go.Proofs.YtchjfeafkmpmbaaGreatDoor
set_option linter.unusedVariables false
set_option linter.unusedSimpArgs false
set_option maxRecDepth 100000
set_option maxHeartbeats 8000000
open Go.ChangeShapes Go.WideShapes Go.ChangeAt Go.RowKit Go.Shelf
namespace HdS
open TabS (Cp Sn zC mayC sizS getR getN Two Pr FootP foot_ltP foot_ltR SameS AddRel addSR setN setM rowsS hasS dropSR dropSL heldA hdsC)
variable {W w w' : World} {s : Sh} {hb rhb n n' t : Nat} {L M L' M' : List Sn} {l l2 l' l2' : List Nod} {S T : Nat → Prop}
theorem same_nodes_t {w : World} {u v : Value} {l : List Nod} (hu : NodesAt w u l) (hv : NodesAt w v l) (hn : l.length < 1000000) : Calls Tryz.prog 19 #[u, v] w fun e w' => e = .returned (.bool true) ∧ Below w.heap.size w w' := by
 have := same_nodes w u v l l hu hv hn hn
 rw [decide_eq_true rfl] at this
 refine this.mono ?_
 rintro e w' ⟨he, j, rfl⟩
 exact ⟨he, below_drewN (Below.refl _ _) _⟩
theorem same_slots_t {w : World} {u v : Value} {l : List Nod} (hu : SlotsAt w u l) (hv : SlotsAt w v l) (hn : l.length < 1000000) : Calls Tryz.prog 25 #[u, v] w fun e w' => e = .returned (.bool true) ∧ Below w.heap.size w w' := by
 have := same_slots w u v l l hu hv hn hn
 rw [decide_eq_true rfl] at this
 refine this.mono ?_
 rintro e w' ⟨he, j, rfl⟩
 exact ⟨he, below_drewN (Below.refl _ _) _⟩
def HeldAt (w : World) (v : Value) (H : List TabS.Hd) : Prop := ∃ a c, v = .slice a H.length c ∧ TabS.HsIs w a H
theorem held_row {w : World} {B : Nat} {v : Value} {H : List TabS.Hd} (h : w.ownsRow B 46 10 v H.length (hdsC H)) : HeldAt w v H := by
 obtain ⟨a, c, rfl, h1, h2⟩ := TabS.hs_of h
 exact ⟨a, c, rfl, TabS.hs_is h⟩
theorem same_held_t {w : World} {u v : Value} {H : List TabS.Hd} (hu : HeldAt w u H) (hv : HeldAt w v H) (hn : H.length < 1000000) : Calls Tryz.prog 18 #[u, v] w fun e w' => e = .returned (.bool true) ∧ Below w.heap.size w w' := by
 obtain ⟨a, c, rfl, h1⟩ := hu
 obtain ⟨b, d, rfl, h2⟩ := hv
 refine (TabS.same_hs w a b c d H h1 h2 hn).mono ?_
 rintro e w' ⟨he, j, rfl⟩
 exact ⟨he, below_drewN (Below.refl _ _) _⟩
theorem row_kept {W W' : World} {B : Nat} {e : TypeId} {s : Nat} {v : Value} {n : Nat} {xs : List Value} (h : W.ownsRow B e s v n xs) (hb : Below W.heap.size W W') : W'.ownsRow B e s v n xs := own_block h fun g hg => hb.block g (h.lt g hg).2
theorem sw_d (o i p j : Int) (x : Nod) : (sw o i p j x).d = x.d := by
 unfold sw
 split
 ·rfl
 ·split <;> rfl
theorem sw_none {o i p j : Int} {x : Nod} (h1 : ¬ (x.o = o ∧ x.i = i)) (h2 : ¬ (x.o = p ∧ x.i = j)) : sw o i p j x = x := by
 unfold sw
 rw [if_neg h1, if_neg h2]
theorem sw_p (o i p j : Int) : sw o i p j ⟨p, j, 0⟩ = ⟨o, i, 0⟩ := by
 unfold sw
 by_cases h : p = o ∧ j = i
 ·simp [h]
 ·simp [h]
theorem sw_o (o i p j : Int) : sw o i p j ⟨o, i, 0⟩ = ⟨p, j, 0⟩ := by
 unfold sw
 simp
theorem sw_at (o i p j : Int) (x : Nod) : ((sw o i p j x).o = p ∧ (sw o i p j x).i = j) ↔ (x.o = o ∧ x.i = i) := by
 rw [sw_slot, sw_p]
theorem idx_swap (l : List Nod) (o i p j : Int) : idx (swapA l o i p j) p j = idx l o i := by
 unfold idx swapA
 rw [List.findIdx?_map]
 congr 1
 funext x
 simp only [Function.comp]
 exact decide_eq_decide.2 (sw_at o i p j x)
theorem belowN_swap (l : List Nod) (o i p j : Int) (k : Nat) : belowN (swapA l o i p j) k = belowN l k := by
 unfold belowN swapA
 rw [← List.map_drop, List.takeWhile_map, List.length_map]
 have e : ((l.map (sw o i p j))[k]?.map Nod.d).getD 0 = ((l[k]?).map Nod.d).getD 0 := by
  rw [List.getElem?_map]
  cases l[k]? with
  | none => rfl
  | some x => simp [sw_d]
 rw [e]
 congr 2
 funext x
 simp only [Function.comp, sw_d]
theorem below_swap {l : List Nod} (hO : Once l) {o i p j : Int} (hp : ¬ (idx l p j).isSome = true) : belowA (swapA l o i p j) p j = belowA l o i := by
 unfold belowA
 rw [idx_swap]
 cases hk : idx l o i with
 | none => rfl
 | some k =>
  simp only []
  rw [belowN_swap]
  unfold swapA
  rw [← List.map_drop, ← List.map_take]
  refine (List.map_congr_left (g := id) (fun x hx => ?_)).trans (List.map_id _)
  have hx1 := List.mem_of_mem_take hx
  obtain ⟨m, hm⟩ := List.getElem?_of_mem hx1
  rw [List.getElem?_drop] at hm
  obtain ⟨y, hy, e1, e2⟩ := idx_some hk
  refine sw_none (fun e => ?_) (fun e => hp (in_mem.2 ⟨x, List.mem_of_getElem? hm, e⟩))
  have := hO _ k x y hm hy (by rw [e.1, e1]) (by rw [e.2, e2])
  omega
theorem swap_back {l : List Nod} {o i p j : Int} (hp : ¬ (idx l p j).isSome = true) : swapA (swapA l o i p j) p j o i = l := by
 unfold swapA
 rw [List.map_map]
 refine (List.map_congr_left (g := id) (fun x hx => ?_)).trans (List.map_id _)
 have h2 : ¬ (x.o = p ∧ x.i = j) := fun e => hp (in_mem.2 ⟨x, hx, e⟩)
 simp only [Function.comp]
 by_cases h1 : x.o = o ∧ x.i = i
 ·have e : sw o i p j x = ⟨p, j, x.d⟩ := by unfold sw; rw [if_pos h1]
  rw [e]
  unfold sw
  rw [if_pos ⟨rfl, rfl⟩]
  obtain ⟨a, b, d⟩ := x
  obtain ⟨rfl, rfl⟩ := h1
  rfl
 ·rw [sw_none h1 h2, sw_none h2 h1]; rfl
theorem gn_some {o i : Int} (h : gn L o i = 0) : getR L o i = some (gt L o i) := by
 unfold gn at h
 unfold gt
 cases hg : getR L o i with
 | none => rw [hg] at h; cases h
 | some c => rfl
structure Back (L : List Sn) (o i p j : Int) : Prop where
 g1 : gt (swapL L o i p j) p j = gt L o i
 g2 : gt (swapL L o i p j) o i = gt L p j
 m0 : gn (swapL L o i p j) p j = 0
 m1 : gn (swapL L o i p j) o i = 0
 same : SameS (swapL (swapL L o i p j) p j o i) L
theorem back_of (h : Inv L l) {o i p j : Int} (h0 : gn L o i = 0) (h1 : gn L p j = 0) : Back L o i p j := by
 have A := asc_set (asc_set h.asc o i (gt L p j)) p j (gt L o i)
 have n1 : gn (setM L o i (gt L p j)) p j = 0 := (gn_set h.asc h0 (h.may _ _) p j).trans h1
 have s1 : ∀ a c, getR (swapL L o i p j) a c = if a = p ∧ c = j then some (gt L o i) else if a = o ∧ c = i then some (gt L p j) else getR L a c := fun a c => by
  unfold swapL
  rw [(set_shape (asc_set h.asc _ _ _) (setN_zero.2 ⟨n1, h.may o i⟩)).2, (set_shape h.asc (setN_zero.2 ⟨h0, h.may p j⟩)).2]
 have hgt := gt_swap h h0 h1
 have g1 : gt (swapL L o i p j) p j = gt L o i := by rw [hgt, sw_p]
 have g2 : gt (swapL L o i p j) o i = gt L p j := by rw [hgt, sw_o]
 have m0 : gn (swapL L o i p j) p j = 0 := by unfold gn; rw [s1, if_pos ⟨rfl, rfl⟩]; rfl
 have m1 : gn (swapL L o i p j) o i = 0 := by
  unfold gn
  rw [s1]
  split
  ·rfl
  ·rw [if_pos ⟨rfl, rfl⟩]; rfl
 refine ⟨g1, g2, m0, m1, ?_⟩
 have A' : Asc (rowsS (swapL L o i p j)) := A
 have n2 : gn (setM (swapL L o i p j) p j (gt L p j)) o i = 0 := (gn_set A' m0 (h.may p j) o i).trans m1
 have e : swapL (swapL L o i p j) p j o i = setM (setM (swapL L o i p j) p j (gt L p j)) o i (gt L o i) := by
  conv => lhs; unfold swapL
  rw [show gt (setM (setM L o i (gt L p j)) p j (gt L o i)) o i = gt L p j from g2, show gt (setM (setM L o i (gt L p j)) p j (gt L o i)) p j = gt L o i from g1]
  rfl
 rw [e]
 refine same_of_get (asc_set (asc_set A' _ _ _) _ _ _) h.asc ?_ (fun a c => ?_)
 ·rw [set_keys (asc_set A' _ _ _), set_keys A']
  unfold swapL
  rw [set_keys (asc_set h.asc _ _ _), set_keys h.asc]
 ·rw [(set_shape (asc_set A' _ _ _) (setN_zero.2 ⟨n2, h.may o i⟩)).2, (set_shape A' (setN_zero.2 ⟨m0, h.may p j⟩)).2]
  by_cases q1 : a = o ∧ c = i
  ·rw [if_pos q1, q1.1, q1.2]; exact (gn_some h0).symm
  ·rw [if_neg q1]
   by_cases q2 : a = p ∧ c = j
   ·rw [if_pos q2, q2.1, q2.2]; exact (gn_some h1).symm
   ·rw [if_neg q2, s1, if_neg q2, if_neg q1]
theorem pair_back (h : Inv L l) {o i p j : Int} (hp : pairN L o i p j = 0) : pairN (swapL L o i p j) p j o i = 0 := by
 obtain ⟨h1, hf, ha⟩ := pairN_zero hp
 obtain ⟨h0, ha'⟩ := fullN_zero hf
 have B := back_of h h0 h1
 have hfull : fullN (swapL L o i p j) p j = 0 := by
  unfold fullN
  rw [B.m0, B.g1, if_neg (fun e => ha' e.2)]
 unfold pairN
 rw [B.m1, hfull, B.g2, ha]
 rfl
end HdS
end Go.Proofs.YtchjfeafkmpmbaaGreatDoor
