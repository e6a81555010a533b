import Derived.Test.YtchjfeafkmpmbaaGreatDoorHe1
namespace Go.Proofs.YtchjfeafkmpmbaaGreatDoor
set_option linter.unusedVariables false
set_option linter.unusedSimpArgs false
set_option maxRecDepth 100000
set_option maxHeartbeats 8000000
open Go.ChangeShapes Go.WideShapes Go.ChangeAt Go.RowKit Go.Shelf
namespace HdS
open TabS (Cp Sn zC mayC sizS getR getN SameS setN setM rowsS heldA hdsC heldL)
variable {W w w' : World} {s : Sh} {hb rhb n n' t : Nat} {L M : List Sn} {l : List Nod}
def cntS (c : Cp) (H : List TabS.Hd) (j : Nat) : Nat := (H.take j).countP fun y => sameC c y.c
theorem cntS_succ (c : Cp) {H : List TabS.Hd} {j : Nat} {y : TabS.Hd} (h : H[j]? = some y) : cntS c H (j + 1) = cntS c H j + (if sameC c y.c then 1 else 0) := by
 unfold cntS
 rw [List.take_add_one, h, Option.toList_some, List.countP_append]
 simp [List.countP_cons]
theorem cntS_le (c : Cp) (H : List TabS.Hd) (j : Nat) : cntS c H j ≤ j := by
 unfold cntS
 have h1 := List.countP_le_length (p := fun y : TabS.Hd => sameC c y.c) (l := H.take j)
 have h2 := List.length_take_le j H
 omega
theorem same_sym (x y : Cp) : sameC x y = sameC y x := by
 unfold sameC CX.alikeB
 rw [Bool.eq_iff_iff]
 simp only [Bool.and_eq_true, decide_eq_true_eq]
 constructor
 ·rintro ⟨⟨⟨⟨a, b⟩, c⟩, d⟩, e⟩
  exact ⟨⟨⟨⟨b, a⟩, by rw [← d]; exact c⟩, d.symm⟩, e.symm⟩
 ·rintro ⟨⟨⟨⟨a, b⟩, c⟩, d⟩, e⟩
  exact ⟨⟨⟨⟨b, a⟩, by rw [← d]; exact c⟩, d.symm⟩, e.symm⟩
theorem same_self {x : Cp} (hm : mayC x = true) (ha : x.a ≠ 0) : sameC x x = true := by
 unfold sameC CX.alikeB
 simp [hm, ha]
theorem fin_count (h : Inv L l) {k : Nat} {x : TabS.Hd} (hk : (heldA L)[k]? = some x) : finB L x.n (x.i : Int) = decide (cntS x.c (heldA L) (heldA L).length = 1) := by
 have hx := List.mem_of_getElem? hk
 obtain ⟨g1, g2⟩ := held_out h.asc hx
 have hm : mayC x.c = true := by rw [← g1]; exact h.may _ _
 have hf : fullN L x.n (x.i : Int) = 0 := full_iff.2 (by rw [g1]; exact g2)
 have hkl := (lgs hk).1
 have hP := heldA_pair h.asc
 unfold finB
 rw [decide_eq_true hf, Bool.true_and, g1]
 unfold cntS
 rw [List.take_length]
 have hsplit : heldA L = (heldA L).take k ++ x :: (heldA L).drop (k + 1) := by
  have e := (List.take_append_drop k (heldA L)).symm
  rwa [List.drop_eq_getElem_cons hkl, show (heldA L)[k] = x from (lgs hk).2] at e
 have hcnt : (heldA L).countP (fun y => sameC x.c y.c) = ((heldA L).take k).countP (fun y => sameC x.c y.c) + 1 + ((heldA L).drop (k + 1)).countP (fun y => sameC x.c y.c) := by
  conv => lhs; rw [hsplit]
  rw [List.countP_append, List.countP_cons, if_pos (same_self hm g2)]
  omega
 rw [hcnt, Bool.eq_iff_iff, decide_eq_true_eq]
 unfold onlyB
 rw [List.all_eq_true]
 have hpair : ∀ m y, (heldA L)[m]? = some y → (y.n = x.n ∧ (y.i : Int) = (x.i : Int)) → m = k := fun m y hy e => by
  obtain ⟨hml, hmy⟩ := lgs hy
  obtain ⟨_, hkx⟩ := lgs hk
  have hp := List.pairwise_iff_getElem.1 hP
  rcases Nat.lt_trichotomy m k with q | q | q
  ·exact (hp m k hml hkl q ⟨by rw [hmy, hkx]; exact e.1, by rw [hmy, hkx]; omega⟩).elim
  ·exact q
  ·exact (hp k m hkl hml q ⟨by rw [hmy, hkx]; exact e.1.symm, by rw [hmy, hkx]; omega⟩).elim
 have hat : ∀ m (hm : m < (heldA L).length), TabS.hdAt (heldA L) m = (heldA L)[m] := fun m hm => by unfold TabS.hdAt; rw [List.getElem?_eq_getElem hm]; rfl
 constructor
 ·intro hall
  have hno : ∀ m y, (heldA L)[m]? = some y → m ≠ k → sameC x.c y.c = false := fun m y hy hne => by
   obtain ⟨hml, hmy⟩ := lgs hy
   have := hall ⟨m, hml⟩ (List.mem_finRange _)
   unfold likeP at this
   rw [hat m hml, hmy] at this
   simp only [Bool.or_eq_true, Bool.not_eq_true', decide_eq_true_eq] at this
   rcases this with q | q
   ·rw [same_sym]; exact q
   ·exact (hne (hpair m y hy q)).elim
  have z1 : ((heldA L).take k).countP (fun y => sameC x.c y.c) = 0 := by
   rw [List.countP_eq_zero]
   intro y hy
   obtain ⟨m, hml, hmy⟩ := List.mem_iff_getElem.1 hy
   rw [List.getElem_take] at hmy
   have hmk : m < k := by rw [List.length_take] at hml; omega
   rw [hno m y (by rw [← hmy]; exact List.getElem?_eq_getElem _) (by omega)]
   decide
  have z2 : ((heldA L).drop (k + 1)).countP (fun y => sameC x.c y.c) = 0 := by
   rw [List.countP_eq_zero]
   intro y hy
   obtain ⟨m, hm'⟩ := List.getElem?_of_mem hy
   rw [List.getElem?_drop] at hm'
   rw [hno _ y hm' (by omega)]
   decide
  omega
 ·intro hc
  have z1 := List.countP_eq_zero.1 (show ((heldA L).take k).countP (fun y => sameC x.c y.c) = 0 by omega)
  have z2 := List.countP_eq_zero.1 (show ((heldA L).drop (k + 1)).countP (fun y => sameC x.c y.c) = 0 by omega)
  rintro ⟨m, hml⟩ -
  unfold likeP
  simp only
  rw [hat m hml]
  rcases Nat.lt_trichotomy m k with q | q | q
  ·have hmem : (heldA L)[m] ∈ (heldA L).take k := List.mem_iff_getElem.2 ⟨m, by rw [List.length_take]; omega, by rw [List.getElem_take]⟩
   have := z1 _ hmem
   rw [same_sym] at this
   simp [this]
  ·subst q
   have e := (lgs hk).2
   rw [e]
   simp
  ·have hmem : (heldA L)[m] ∈ (heldA L).drop (k + 1) := List.mem_iff_getElem?.2 ⟨m - (k + 1), by rw [List.getElem?_drop, show k + 1 + (m - (k + 1)) = m by omega]; exact List.getElem?_eq_getElem hml⟩
   have := z2 _ hmem
   rw [same_sym] at this
   simp [this]
theorem remove_len {o i : Int} (h : (idx l o i).isSome = true) : (removeA l o i).1.length + 1 = l.length := by
 obtain ⟨k, hk⟩ := Option.isSome_iff_exists.1 h
 unfold removeA
 rw [hk]
 simp only
 have hkl : k < l.length := by
  obtain ⟨x, hx, _⟩ := idx_some hk
  exact (lgs hx).1
 rw [List.length_eraseIdx, low_len, if_pos hkl]
 omega
structure Left (H : List TabS.Hd) (t : Nat) (L : List Sn) (l : List Nod) : Prop where
 inv : Inv L l
 len : l.length + t = H.length
 keep : ∀ m y, H[m]? = some y → t ≤ m → gt L y.n (y.i : Int) = y.c ∧ y.c.a ≠ 0
theorem Left.first (h : Inv L l) : Left (heldA L) 0 L l :=
 ⟨h, h.count.symm, fun m y hy _ => held_out h.asc (List.mem_of_getElem? hy)⟩
theorem Left.step {H : List TabS.Hd} (hP : H.Pairwise fun a b => ¬ (a.n = b.n ∧ a.i = b.i)) (h : Left H t L l) {x : TabS.Hd} (hx : H[t]? = some x) (hO : Once (removeA l x.n (x.i : Int)).1) : fullN L x.n (x.i : Int) = 0 ∧ gt L x.n (x.i : Int) = x.c ∧ (removeA l x.n (x.i : Int)).2 = 0 ∧ Left H (t + 1) (setM L x.n (x.i : Int) zC) (removeA l x.n (x.i : Int)).1 := by
 obtain ⟨g1, g2⟩ := h.keep t x hx (Nat.le_refl _)
 have hf : fullN L x.n (x.i : Int) = 0 := full_iff.2 (by rw [g1]; exact g2)
 obtain ⟨hI, h0⟩ := h.inv.clear hf hO
 have hl := remove_len ((h.inv.tr x.n (x.i : Int)).2 (by rw [g1]; exact g2))
 refine ⟨hf, g1, h0, ⟨hI, by have := h.len; omega, fun m y hy hm => ?_⟩⟩
 obtain ⟨k1, k2⟩ := h.keep m y hy (by omega)
 refine ⟨?_, k2⟩
 rw [gt_set h.inv.asc (fullN_zero hf).1 may_zero, if_neg, k1]
 intro e
 obtain ⟨hml, hmy⟩ := lgs hy
 obtain ⟨htl, htx⟩ := lgs hx
 exact List.pairwise_iff_getElem.1 hP t m htl hml (by omega) ⟨by rw [hmy, htx]; exact e.1.symm, by rw [hmy, htx]; omega⟩
end HdS
end Go.Proofs.YtchjfeafkmpmbaaGreatDoor
