import Derived.Test.YtchjfeafkmpmbaaGreatDoorHe0
namespace Go.Proofs.YtchjfeafkmpmbaaGreatDoor
set_option linter.unusedVariables false
set_option linter.unusedSimpArgs false
set_option maxRecDepth 100000
set_option maxHeartbeats 8000000
open Go.ChangeShapes Go.WideShapes Go.ChangeAt Go.RowKit Go.Shelf
namespace HdS
open TabS (Cp Sn zC mayC sizS getR getN SameS rowsS heldA hdsC heldL)
variable {W w w' : World} {s : Sh} {hb rhb n n' t : Nat} {L M : List Sn} {l : List Nod}
theorem held_id {id : Int} {l : List Cp} {o : Nat} {h : TabS.Hd} (hm : h ∈ heldL id o l) : h.n = id ∧ o ≤ h.i := by
 obtain ⟨h1, j, h2, _⟩ := TabS.mem_heldL hm
 exact ⟨h1, by omega⟩
theorem heldL_pair (id : Int) : ∀ (l : List Cp) (o : Nat), (heldL id o l).Pairwise fun a b => ¬ (a.n = b.n ∧ a.i = b.i)
 | [], o => List.Pairwise.nil
 | c :: l, o => by
  unfold heldL
  split
  ·exact heldL_pair id l (o + 1)
  ·exact List.Pairwise.cons (fun b hb e => by have := (held_id hb).2; have := e.2; simp only at this; omega) (heldL_pair id l (o + 1))
theorem heldA_pair (hA : Asc (rowsS L)) : (heldA L).Pairwise fun a b => ¬ (a.n = b.n ∧ a.i = b.i) := by
 unfold heldA
 refine List.pairwise_flatMap.2 ⟨fun x _ => heldL_pair x.id x.l 0, ?_⟩
 have hA' : L.Pairwise fun x y => x.id < y.id := by
  have := hA
  unfold Asc rowsS at this
  rw [List.map_map, List.pairwise_map] at this
  exact this
 refine hA'.imp ?_
 intro x y hxy a ha b hb e
 have h1 := (held_id ha).1
 have h2 := (held_id hb).1
 omega
theorem heldL_in {id : Int} {c : Cp} (hc : c.a ≠ 0) : ∀ {l : List Cp} {o j : Nat}, l[j]? = some c → (⟨id, o + j, c⟩ : TabS.Hd) ∈ heldL id o l
 | [], o, j, h => by simp at h
 | d :: l, o, 0, h => by
  simp at h
  subst h
  unfold heldL
  rw [if_neg hc]
  exact List.mem_cons_self
 | d :: l, o, j + 1, h => by
  have := heldL_in (id := id) hc (l := l) (o := o + 1) (j := j) (by simpa using h)
  rw [show o + 1 + j = o + (j + 1) by omega] at this
  unfold heldL
  split
  ·exact this
  ·exact List.mem_cons_of_mem _ this
theorem held_in (hA : Asc (rowsS L)) {o i : Int} (h : (gt L o i).a ≠ 0) : ∃ x ∈ heldA L, x.n = o ∧ (x.i : Int) = i ∧ x.c = gt L o i := by
 cases hg : getR L o i with
 | none => exact (h (by unfold gt; rw [hg]; rfl)).elim
 | some c =>
  have he : gt L o i = c := by unfold gt; rw [hg]; rfl
  rw [he] at h ⊢
  obtain ⟨x, hx, h1, h2, h3⟩ := (getR_mem hA).1 hg
  refine ⟨_, List.mem_flatMap.2 ⟨x, hx, heldL_in (id := x.id) h (o := 0) h3⟩, h1, ?_, rfl⟩
  simp only [Nat.zero_add]
  omega
theorem held_out (hA : Asc (rowsS L)) {x : TabS.Hd} (hx : x ∈ heldA L) : gt L x.n (x.i : Int) = x.c ∧ x.c.a ≠ 0 := by
 obtain ⟨k, hk, rfl⟩ := List.mem_iff_getElem.1 hx
 have := held_gt hA hk
 have hat : TabS.hdAt (heldA L) k = (heldA L)[k] := by unfold TabS.hdAt; rw [List.getElem?_eq_getElem hk]; rfl
 rwa [hat] at this
theorem once_nodup (h : Once l) : (l.map fun x => (x.o, x.i)).Nodup := by
 refine List.pairwise_map.2 (List.pairwise_iff_getElem.2 ?_)
 intro i j hi hj hij e
 have e1 := congrArg Prod.fst e
 have e2 := congrArg Prod.snd e
 have := h i j _ _ (List.getElem?_eq_getElem hi) (List.getElem?_eq_getElem hj) e1 e2
 omega
theorem Inv.count (h : Inv L l) : (heldA L).length = l.length := by
 have n1 : ((heldA L).map fun x => (x.n, (x.i : Int))).Nodup := by
  refine List.pairwise_map.2 ((heldA_pair h.asc).imp ?_)
  intro a b hab e
  have e1 := congrArg Prod.fst e
  have e2 := congrArg Prod.snd e
  simp only at e1 e2
  exact hab ⟨e1, by omega⟩
 have n2 := once_nodup h.once
 have hm : ∀ q, q ∈ ((heldA L).map fun x => (x.n, (x.i : Int))) ↔ q ∈ (l.map fun x => (x.o, x.i)) := by
  rintro ⟨o, i⟩
  constructor
  ·intro hq
   obtain ⟨x, hx, e⟩ := List.mem_map.1 hq
   obtain ⟨g1, g2⟩ := held_out h.asc hx
   cases e
   obtain ⟨y, hy, e1, e2⟩ := in_mem.1 ((h.tr x.n x.i).2 (by rw [g1]; exact g2))
   exact List.mem_map.2 ⟨y, hy, by rw [e1, e2]⟩
  ·intro hq
   obtain ⟨y, hy, e⟩ := List.mem_map.1 hq
   cases e
   obtain ⟨x, hx, e1, e2, _⟩ := held_in h.asc ((h.tr y.o y.i).1 (in_mem.2 ⟨y, hy, rfl, rfl⟩))
   exact List.mem_map.2 ⟨x, hx, by rw [e1, e2]⟩
 have := ((List.perm_ext_iff_of_nodup n1 n2).2 hm).length_eq
 simpa using this
theorem hds_get : ∀ (L : List TabS.Hd) (i j : Nat) (x : TabS.Hd) (u : Value), L[i]? = some x → x.L[j]? = some u → (hdsC L)[i * 10 + j]? = some u
 | [], i, j, x, u, hi, _ => by simp at hi
 | y :: L, 0, j, x, u, hi, hj => by
  simp at hi
  subst hi
  have e : hdsC (y :: L) = y.L ++ hdsC L := rfl
  have hl : y.L.length = 10 := rfl
  rw [e, List.getElem?_append_left (by have := (lgs hj).1; omega)]
  simpa using hj
 | y :: L, i + 1, j, x, u, hi, hj => by
  have e : hdsC (y :: L) = y.L ++ hdsC L := rfl
  have hl : y.L.length = 10 := rfl
  rw [e, List.getElem?_append_right (by omega), hl, show (i + 1) * 10 + j - 10 = i * 10 + j by omega]
  exact hds_get L i j x u (by simpa using hi) hj
structure HdRow (w : World) (ra : Option Addr) (g : Nat) (H : List TabS.Hd) : Prop where
 at_ : ∀ (i : Nat) (x : TabS.Hd), H[i]? = some x → ra = some ⟨g, 0, none⟩ ∧ g < w.heap.size ∧ w.rangeAt g (i * 10) x.L
theorem HdRow.call {ra : Option Addr} {g : Nat} {H : List TabS.Hd} (h : HdRow w ra g H) (hb : Below w.heap.size w w') : HdRow w' ra g H :=
 ⟨fun i x hi => ⟨(h.at_ i x hi).1, Nat.lt_of_lt_of_le (h.at_ i x hi).2.1 hb.size, fun j u hj => (hb.cell (p := ⟨g, _, none⟩) (h.at_ i x hi).2.1).trans ((h.at_ i x hi).2.2 j u hj)⟩⟩
theorem hd_row {base : Nat} {r : Value} {H : List TabS.Hd} (h : w.ownsRow base 46 10 r H.length (hdsC H)) : ∃ ra rc g, r = .slice ra H.length rc ∧ HdRow w ra g H := by
 have hlt := h.lt
 have hcs := fun g hg => h.cells (g := g) hg
 rcases h.2 with ⟨rfl, h0⟩ | ⟨g, cap, cur, rfl, q1, q2, q3, q4, q5, q6⟩
 ·exact ⟨none, 0, 0, by rw [h0], ⟨fun t x hx => by have := (lgs hx).1; omega⟩⟩
 ·refine ⟨_, _, g, rfl, ⟨fun i x hi => ⟨rfl, (hlt g rfl).2, fun j u hj => ?_⟩⟩⟩
  have := hcs g rfl _ _ (hds_get H i j x u hi hj)
  rwa [Addr.add_mid, Nat.zero_add] at this
theorem Hd.hsmall {l2 : List Nod} {S : Nat → Prop} (h : Hd W s hb rhb n L M l l2 S w) (hL : L.length < 1000) : (heldA L).length < 1000000 := by
 have hroom := TabS.heldA_len L h.room
 omega
end HdS
end Go.Proofs.YtchjfeafkmpmbaaGreatDoor
