import Derived.Test.YtchjfeafkmpmbaaGreatDoorPkae
import Derived.RegionTactic
import Derived.Deep.QuietTactic
import Derived.BigQuiet
import Derived.Lib.Hide
namespace Go.Proofs.YtchjfeafkmpmbaaGreatDoor
set_option linter.unusedVariables false
set_option linter.unusedSimpArgs false
set_option maxRecDepth 100000
set_option maxHeartbeats 8000000
open Lib (hid)
section
namespace CX
open Go.ChangeShapes Go.WideShapes Go.ChangeAt Go.RowKit
theorem capMay (a b c d e f g h : Int) (W : World) (hT : TabG W) (e1 : e ≤ 9223372036854775807) : Calls Tryz.prog 15 #[capV a b c d e f g h] W fun x W' => x = .returned (.bool (capB a b c d e f g h)) ∧ Below W.heap.size W W' := by
 by_cases h0 : a = 0 ∨ a = 7
 ·exact none_may a b c d e f g h W h0
 by_cases h1 : a = 1 ∨ a = 4 ∨ a = 5 ∨ a = 6 ∨ a = 9
 ·exact plain_may a b c d e f g h W h1
 by_cases h2 : a = 2
 ·subst h2; exact node_may b c d e f g h W hT e1
 by_cases h3 : a = 3
 ·subst h3; exact frame_may b c d e f g h W
 by_cases h8 : a = 8
 ·subst h8; exact end_may b c d e f g h W
 exact no_may a b c d e f g h W (by omega)
theorem refMay13_no (a b c d e f g h : Int) (W : World) (ha : a < 0 ∨ 9 < a) : Calls Tryz.prog 110 #[capV a b c d e f g h] W fun x W' => x = .returned (.bool (capB a b c d e f g h)) ∧ Below W.heap.size W W' := by
 have hk : capB a b c d e f g h = false := by
  unfold capB
  rw [if_neg (by omega), if_neg (by omega), if_neg (by omega), if_neg (by omega), if_neg (by omega)]
 rw [hk]
 have k0 : (a == 0) = false := beq_eq_false_iff_ne.2 (by omega)
 have k1 : (a == 1) = false := beq_eq_false_iff_ne.2 (by omega)
 have k2 : (a == 2) = false := beq_eq_false_iff_ne.2 (by omega)
 have k3 : (a == 3) = false := beq_eq_false_iff_ne.2 (by omega)
 have k4 : (a == 4) = false := beq_eq_false_iff_ne.2 (by omega)
 have k5 : (a == 5) = false := beq_eq_false_iff_ne.2 (by omega)
 have k6 : (a == 6) = false := beq_eq_false_iff_ne.2 (by omega)
 have k7 : (a == 7) = false := beq_eq_false_iff_ne.2 (by omega)
 have k8 : (a == 8) = false := beq_eq_false_iff_ne.2 (by omega)
 have k9 : (a == 9) = false := beq_eq_false_iff_ne.2 (by omega)
 clear hk ha
 go_enter Tryz.func110, Tryz.ntmps110
 go_wp2
 go_ret
 exact ⟨rfl, (by repeat (first | exact Below.refl _ _ | assumption | refine below_drewN ?_ _ | refine Below.drew ?_ | refine Below.setCell ?_ (by first | exact Nat.le_refl _ | (simp; done) | (simp; omega)) _ | refine bal ?_ _ | refine bgo ?_ (by assumption)))⟩
theorem refMay13 (a b c d e f g h : Int) (W : World) : Calls Tryz.prog 110 #[capV a b c d e f g h] W fun x W' => x = .returned (.bool (capB a b c d e f g h)) ∧ Below W.heap.size W W' := by
 by_cases h0 : a = 0 ∨ a = 7
 ·exact refMay13_none a b c d e f g h W h0
 by_cases h1 : a = 1 ∨ a = 4 ∨ a = 5 ∨ a = 6 ∨ a = 9
 ·exact refMay13_plain a b c d e f g h W h1
 by_cases h2 : a = 2
 ·subst h2
  by_cases hk : objB b = true ∧ c = 0 ∧ d = 0 ∧ g = 0 ∧ h = 0 ∧ 0 ≤ f ∧ f ≤ 12 ∧ 0 ≤ e
  ·obtain ⟨hb, rfl, rfl, rfl, rfl, f0, f1, he⟩ := hk
   obtain ⟨n, rfl⟩ := Int.eq_ofNat_of_zero_le f0
   exact refMay13_node1 b e n W hb (by omega) he
  ·refine refMay13_node0 b c d e f g h W ?_
   cases hb : objB b
   ·exact .inl rfl
   ·simp only [hb, true_and] at hk ⊢
    simp only [reduceCtorEq, false_or]
    omega
 by_cases h3 : a = 3
 ·subst h3; exact refMay13_frame b c d e f g h W
 by_cases h8 : a = 8
 ·subst h8; exact refMay13_end b c d e f g h W
 exact refMay13_no a b c d e f g h W (by omega)
end CX
end
section
open Go.ChangeShapes Go.WideShapes Go.ChangeAt Go.RowKit Go.Shelf
namespace TabS
def NoSlot (L : List Sn) (id ix : Int) : Prop := hasS L id = false ∨ ∃ x, L[posS L id]? = some x ∧ x.id = id ∧ (ix < 0 ∨ (x.l.length : Int) ≤ ix)
theorem sat_no (w : World) (b base : Nat) (tv : Value) (L : List Sn) (id ix : Int) (h : SlotsAt w b base tv L) (hn : NoSlot L id ix) :
  Calls Tryz.prog 102 #[.pointer (some ⟨b, 0, none⟩), .agg #[.int .i64 id, .int .i64 ix]] w fun e w' => e = .returned (.tuple #[.pointer none, .int .i64 3]) ∧ Below w.heap.size w w' := by
 rcases hn with hh | ⟨x, hx, hid, hi | hi⟩
 ·exact sat_none w b base tv L id ix h hh
 ·exact sat_low w b base tv L id ix x h hx hid hi
 ·exact sat_high w b base tv L id ix x h hx hid hi
theorem slot_or {w : World} {b base : Nat} {tv : Value} {L : List Sn} (h : SlotsAt w b base tv L) (id ix : Int) : NoSlot L id ix ∨ ∃ (x : Sn) (i : Nat), L[posS L id]? = some x ∧ x.id = id ∧ ix = i ∧ i < x.l.length := by
 cases hh : hasS L id with
 | false => exact .inl (.inl hh)
 | true =>
  obtain ⟨x, hx, hid⟩ := (hasS_at h).1 hh
  by_cases h1 : ix < 0 ∨ (x.l.length : Int) ≤ ix
  ·exact .inl (.inr ⟨x, hx, hid, h1⟩)
  ·exact .inr ⟨x, ix.toNat, hx, hid, by omega, by omega⟩
theorem sget_no (w : World) (b base : Nat) (tv : Value) (L : List Sn) (id ix : Int) (h : SlotsAt w b base tv L) (hn : NoSlot L id ix) :
  Calls Tryz.prog 66 #[.pointer (some ⟨b, 0, none⟩), .agg #[.int .i64 id, .int .i64 ix]] w fun e w' => e = .returned (.tuple #[zC.V, .int .i64 3]) ∧ Below w.heap.size w w' := by
 have H := Lib.hid h
 have HN := Lib.hid hn
 clear h hn
 go_enter Tryz.func66, Tryz.ntmps66
 go_wp2_with (first
  | (go_at_call 102; refine (sat_no _ b base tv L id ix (H.out.call (bal (bal (Below.refl _ _) _) _)) HN.out).mono ?_; rintro e w1 ⟨rfl, hb1⟩; obtain ⟨hc1, hf1⟩ := bcell hb1; have hz1 := hb1.size; have hz2 : w.heap.size + 1 < w1.heap.size := (by simp at hz1; omega)))
 exact bodyPost_ret (v := .tuple #[zC.V, .int .i64 3]) (by simp [results, Tryz.results66, go_sem, hc1, hf1, hz2, zC]) rfl ⟨rfl, bs' (bs' (bs' (bs' (bs' (bs' (bs' (bs' (bgo (bal (bal (Below.refl _ _) _) _) hb1) _ _ _) _ _ _) _ _ _) _ _ _) _ _ _) _ _ _) _ _ _) _ _ _⟩
theorem sget_yes (w : World) (b base : Nat) (tv : Value) (L : List Sn) (id : Int) (i : Nat) (x : Sn) (c : Cp) (h : SlotsAt w b base tv L) (hx : L[posS L id]? = some x) (hid : x.id = id) (hc : x.l[i]? = some c) :
  Calls Tryz.prog 66 #[.pointer (some ⟨b, 0, none⟩), .agg #[.int .i64 id, .int .i64 i]] w fun e w' => e = .returned (.tuple #[c.V, .int .i64 0]) ∧ Below w.heap.size w w' := by
 have H := Lib.hid h
 have hi := (lgs hc).1
 have HX := Lib.hid hx
 have HI := Lib.hid hid
 have HL := Lib.hid hi
 have hg : x.g < w.heap.size := h.glt (List.mem_of_getElem? hx)
 have HC := Lib.hid (fun (w' : World) (hb : Below w.heap.size w w') (j : Nat) (u : Value) (hu : c.L[j]? = some u) => (h.call hb).cell (List.mem_of_getElem? hx) hc hu)
 have hat : ∀ v, Below w.heap.size w v → Calls Tryz.prog 102 #[.pointer (some ⟨b, 0, none⟩), .agg #[.int .i64 id, .int .i64 i]] v fun e w' => e = .returned (.tuple #[.pointer (some ⟨x.g, i * 8, none⟩), .int .i64 0]) ∧ Below v.heap.size v w' := fun v hv => sat_yes v b base tv L id i x (h.call hv) hx hid hi
 have HA := Lib.hid hat
 clear h hx hid hc hi hat
 obtain ⟨gx, hgx⟩ : ∃ y, y = x.g := ⟨_, rfl⟩
 rw [← hgx] at HC HA hg
 clear hgx
 go_enter Tryz.func66, Tryz.ntmps66
 go_wp2_with (first
  | (go_at_call 102; refine (HA.out _ (bal (bal (Below.refl _ _) _) _)).mono ?_; rintro e w1 ⟨rfl, hb1⟩; have HB1 := Lib.hid (bgo (bal (bal (Below.refl w.heap.size w) _) _) hb1); obtain ⟨hc1, hf1⟩ := bcell hb1; have hz1 := hb1.size; have hz2 : w.heap.size + 1 < w1.heap.size := (by simp at hz1; omega); have k0 := HC.out w1 HB1.out 0 _ rfl; have k1 := HC.out w1 HB1.out 1 _ rfl; have k2 := HC.out w1 HB1.out 2 _ rfl; have k3 := HC.out w1 HB1.out 3 _ rfl; have k4 := HC.out w1 HB1.out 4 _ rfl; have k5 := HC.out w1 HB1.out 5 _ rfl; have k6 := HC.out w1 HB1.out 6 _ rfl; have k7 := HC.out w1 HB1.out 7 _ rfl; rw [Nat.add_zero] at k0))
 exact bodyPost_ret (v := .tuple #[c.V, .int .i64 0]) (by simp [results, Tryz.results66, go_sem, hc1, hf1, hz2]) rfl ⟨rfl, bs' (bs' (bs' (bs' (bs' (bs' (bs' (bs' (bgo (bal (bal (Below.refl _ _) _) _) hb1) _ _ _) _ _ _) _ _ _) _ _ _) _ _ _) _ _ _) _ _ _) _ _ _⟩
def putS (L : List Sn) (k : Nat) (x : Sn) (i : Nat) (c : Cp) : List Sn := L.set k ⟨x.id, x.g, x.l.set i c⟩
theorem rowsS_put {L : List Sn} {k : Nat} {x : Sn} (hk : L[k]? = some x) (i : Nat) (c : Cp) : rowsS (putS L k x i c) = rowsS L := by
 unfold rowsS putS
 apply List.ext_getElem?
 intro j
 rw [List.getElem?_map, List.getElem?_map, List.getElem?_set]
 have := (lgs hk).1
 by_cases e : k = j
 ·subst e
  rw [if_pos rfl, if_pos this, hk]
  simp [rowS, Sn.v]
 ·rw [if_neg e]
theorem mem_putS {L : List Sn} {k : Nat} {x : Sn} {i : Nat} {c : Cp} {y : Sn} (hp : L.Pairwise fun x y => x.g ≠ y.g) (hk : L[k]? = some x) (hy : y ∈ putS L k x i c) : y = ⟨x.id, x.g, x.l.set i c⟩ ∨ (y ∈ L ∧ y.g ≠ x.g) := by
 obtain ⟨j, hj⟩ := List.getElem?_of_mem hy
 unfold putS at hj
 rw [List.getElem?_set] at hj
 by_cases e : k = j
 ·subst e
  rw [if_pos rfl] at hj
  split at hj
  ·cases hj; exact .inl rfl
  ·cases hj
 ·rw [if_neg e] at hj
  refine .inr ⟨List.mem_of_getElem? hj, ?_⟩
  obtain ⟨hjl, rfl⟩ := lgs hj
  obtain ⟨hkl, rfl⟩ := lgs hk
  rcases Nat.lt_or_gt_of_ne e with q | q
  ·exact Ne.symm (List.pairwise_iff_getElem.1 hp k j hkl hjl q)
  ·exact List.pairwise_iff_getElem.1 hp j k hjl hkl q
theorem pair_putS {L : List Sn} {k : Nat} {x : Sn} {i : Nat} {c : Cp} (hp : L.Pairwise fun x y => x.g ≠ y.g) (hk : L[k]? = some x) : (putS L k x i c).Pairwise fun x y => x.g ≠ y.g := by
 have e : (putS L k x i c).map Sn.g = L.map Sn.g := by
  unfold putS
  apply List.ext_getElem?
  intro j
  rw [List.getElem?_map, List.getElem?_map, List.getElem?_set]
  have := (lgs hk).1
  by_cases e : k = j
  ·subst e
   rw [if_pos rfl, if_pos this, hk]
   rfl
  ·rw [if_neg e]
 have h1 : (L.map Sn.g).Pairwise (· ≠ ·) := List.pairwise_map.2 hp
 rw [← e] at h1
 exact List.pairwise_map.1 h1
theorem SlotsAt.put {w : World} {b base : Nat} {tv : Value} {L : List Sn} (h : SlotsAt w b base tv L) {k : Nat} {x : Sn} (hk : L[k]? = some x) {i : Nat} (hi : i < x.l.length) (c : Cp) :
  SlotsAt (setL w x.g (i * 8) c.L) b base tv (putS L k x i c) ∧ SOnly w (setL w x.g (i * 8) c.L) b tv tv L (putS L k x i c) := by
 have hx := List.mem_of_getElem? hk
 have eo := fun j (hj : j ≠ x.g) => setL_other hj c.L w (i * 8)
 obtain ⟨s1, s2, s3, s4⟩ := setL_rest (m := x.g) c.L w (i * 8)
 have em : (setL w x.g (i * 8) c.L).heap[x.g]? = some (.cells (flatC (x.l.set i c)).toArray 33 (0, 0)) := by
  rw [setL_same c.L w (i * 8) _ (h.blk x hx).1, putL_eq _ _ _ (by rw [flatC_len]; simp [Cp.L]; omega), flatC_set c hi]
  rfl
 have hbx : b ≠ x.g := Ne.symm (h.gne hx)
 refine ⟨⟨?_, fun y hy => ?_, pair_putS h.ap hk, fun y hy => ?_, fun y hy => ?_⟩, ⟨s1, s2, s3, Nat.le_of_eq s4.symm, fun j _ _ _ hL => eo j (fun e => hL x hx e.symm), fun j _ e => ?_⟩⟩
 ·rw [rowsS_put hk]
  exact h.tab.of (Nat.le_of_eq s4.symm) (World.cell?_of_block (eo b hbx)) (World.frozen?_of_block (eo b hbx)) (fun g hg => eo g (fun e => h.nt x hx (e ▸ hg)))
 ·rcases mem_putS h.ap hk hy with rfl | ⟨q1, q2⟩
  ·exact ⟨em, (h.blk x hx).2⟩
  ·exact ⟨(eo y.g q2).trans (h.blk y q1).1, (h.blk y q1).2⟩
 ·rcases mem_putS h.ap hk hy with rfl | ⟨q1, q2⟩
  ·exact h.nt x hx
  ·exact h.nt y q1
 ·rcases mem_putS h.ap hk hy with rfl | ⟨q1, q2⟩
  ·simpa using h.bd x hx
  ·exact h.bd y q1
 ·rcases e with e | ⟨y, hy, e⟩
  ·exact .inl e
  ·rcases mem_putS h.ap hk hy with rfl | ⟨q1, q2⟩
   ·exact .inr ⟨x, hx, e⟩
   ·exact .inr ⟨y, q1, e⟩
def mayC (c : Cp) : Bool := CX.capB c.a c.b c.c c.d c.e c.f c.g c.h
theorem sset_no (w : World) (b base : Nat) (tv : Value) (L : List Sn) (id ix : Int) (c : Cp) (h : SlotsAt w b base tv L) (hn : NoSlot L id ix) :
  Calls Tryz.prog 71 #[.pointer (some ⟨b, 0, none⟩), .agg #[.int .i64 id, .int .i64 ix], c.V] w fun e w' => e = .returned (.int .i64 3) ∧ Below w.heap.size w w' := by
 have H := Lib.hid h
 have HN := Lib.hid hn
 clear h hn
 go_enter Tryz.func71, Tryz.ntmps71
 go_wp2_with (first
  | (go_at_call 102; refine (sat_no _ b base tv L id ix (H.out.call (bal (bal (Below.refl _ _) _) _)) HN.out).mono ?_; rintro e w1 ⟨rfl, hb1⟩; obtain ⟨hc1, hf1⟩ := bcell hb1))
 go_ret
 exact ⟨rfl, bgo (bal (bal (Below.refl _ _) _) _) hb1⟩
theorem sset_form (w : World) (b base : Nat) (tv : Value) (L : List Sn) (id : Int) (i : Nat) (x : Sn) (c : Cp) (h : SlotsAt w b base tv L) (hT : CX.TabG w) (he : c.e ≤ 9223372036854775807) (hx : L[posS L id]? = some x) (hid : x.id = id) (hi : i < x.l.length) (hm : mayC c = false) :
  Calls Tryz.prog 71 #[.pointer (some ⟨b, 0, none⟩), .agg #[.int .i64 id, .int .i64 i], c.V] w fun e w' => e = .returned (.int .i64 5) ∧ Below w.heap.size w w' := by
 have hat : ∀ v, Below w.heap.size w v → Calls Tryz.prog 102 #[.pointer (some ⟨b, 0, none⟩), .agg #[.int .i64 id, .int .i64 i]] v fun e w' => e = .returned (.tuple #[.pointer (some ⟨x.g, i * 8, none⟩), .int .i64 0]) ∧ Below v.heap.size v w' := fun v hv => sat_yes v b base tv L id i x (h.call hv) hx hid hi
 have HA := Lib.hid hat
 have hmay : ∀ v, Below w.heap.size w v → Calls Tryz.prog 15 #[c.V] v fun e w' => e = .returned (.bool false) ∧ Below v.heap.size v w' := fun v hv => hm ▸ CX.capMay c.a c.b c.c c.d c.e c.f c.g c.h v (hT.call hv) he
 have HM := Lib.hid hmay
 clear h hx hid hi hat hmay hT he hm
 go_enter Tryz.func71, Tryz.ntmps71
 go_wp2_with (first
  | (go_at_call 102; refine (HA.out _ (bal (bal (Below.refl _ _) _) _)).mono ?_; rintro e w1 ⟨rfl, hb1⟩; have HB1 := Lib.hid (bgo (bal (bal (Below.refl w.heap.size w) _) _) hb1); obtain ⟨hc1, hf1⟩ := bcell hb1; have hz1 := hb1.size; have hz2 : w.heap.size + 1 < w1.heap.size := (by simp at hz1; omega))
  | (go_at_call 15; refine (HM.out _ HB1.out).mono ?_; rintro e w2 ⟨rfl, hb2⟩))
 go_ret
 exact ⟨rfl, bgo HB1.out hb2⟩
theorem setL_C (w : World) (m k : Nat) (c : Cp) : setL w m k c.L = (((((((w.setCell ⟨m, k, none⟩ (.int .i64 c.a)).setCell ⟨m, k + 1, none⟩ (.int .i64 c.b)).setCell ⟨m, k + 2, none⟩ (.int .i64 c.c)).setCell ⟨m, k + 3, none⟩ (.int .u64 c.d)).setCell ⟨m, k + 4, none⟩ (.int .i64 c.e)).setCell ⟨m, k + 5, none⟩ (.int .i64 c.f)).setCell ⟨m, k + 6, none⟩ (.int .i64 c.g)).setCell ⟨m, k + 7, none⟩ (.int .i64 c.h) := rfl
theorem sset_yes (w : World) (b base : Nat) (tv : Value) (L : List Sn) (id : Int) (i : Nat) (x : Sn) (c : Cp) (h : SlotsAt w b base tv L) (hT : CX.TabG w) (he : c.e ≤ 9223372036854775807) (hx : L[posS L id]? = some x) (hid : x.id = id) (hi : i < x.l.length) (hm : mayC c = true) :
  Calls Tryz.prog 71 #[.pointer (some ⟨b, 0, none⟩), .agg #[.int .i64 id, .int .i64 i], c.V] w fun e w' => e = .returned (.int .i64 0) ∧ SlotsAt w' b base tv (putS L (posS L id) x i c) ∧ SOnly w w' b tv tv L (putS L (posS L id) x i c) := by
 have hat : ∀ v, Below w.heap.size w v → Calls Tryz.prog 102 #[.pointer (some ⟨b, 0, none⟩), .agg #[.int .i64 id, .int .i64 i]] v fun e w' => e = .returned (.tuple #[.pointer (some ⟨x.g, i * 8, none⟩), .int .i64 0]) ∧ Below v.heap.size v w' := fun v hv => sat_yes v b base tv L id i x (h.call hv) hx hid hi
 have HA := Lib.hid hat
 have hmay : ∀ v, Below w.heap.size w v → Calls Tryz.prog 15 #[c.V] v fun e w' => e = .returned (.bool true) ∧ Below v.heap.size v w' := fun v hv => hm ▸ CX.capMay c.a c.b c.c c.d c.e c.f c.g c.h v (hT.call hv) he
 have HM := Lib.hid hmay
 have hmem := List.mem_of_getElem? hx
 have hg : x.g < w.heap.size := h.glt hmem
 obtain ⟨c0, hc0⟩ : ∃ c0, x.l[i]? = some c0 := ⟨_, List.getElem?_eq_getElem hi⟩
 have HC := Lib.hid (fun (w' : World) (hb : Below w.heap.size w w') (j : Nat) (u : Value) (hu : c0.L[j]? = some u) => (h.call hb).cell hmem hc0 hu)
 have HZ := Lib.hid (fun (w' : World) (hb : Below w.heap.size w w') (j : Nat) => (h.call hb).free hmem j)
 have hfin : ∀ w', Below w.heap.size w w' → SlotsAt (setL w' x.g (i * 8) c.L) b base tv (putS L (posS L id) x i c) ∧ SOnly w (setL w' x.g (i * 8) c.L) b tv tv L (putS L (posS L id) x i c) := by
  intro w' hb
  obtain ⟨q1, q2⟩ := (h.call hb).put hx hi c
  exact ⟨q1, q2.os.trans hb.os, q2.tape.trans hb.tape, q2.output.trans hb.output, Nat.le_trans hb.size q2.size, fun k hk p1 p2 p3 => (q2.block k (Nat.lt_of_lt_of_le hk hb.size) p1 p2 p3).trans (hb.block k hk), fun k hk e => q2.foot k (Nat.lt_of_lt_of_le hk hb.size) e⟩
 have HF := Lib.hid hfin
 clear h hx hid hi hat hmay hT he hm hc0 hmem hfin
 obtain ⟨gx, hgx⟩ : ∃ y, y = x.g := ⟨_, rfl⟩
 rw [← hgx] at HC HA hg HZ HF
 clear hgx
 go_enter Tryz.func71, Tryz.ntmps71
 go_wp2_with (first
  | (go_at_call 102; refine (HA.out _ (bal (bal (Below.refl _ _) _) _)).mono ?_; rintro e w1 ⟨rfl, hb1⟩; have HB1 := Lib.hid (bgo (bal (bal (Below.refl w.heap.size w) _) _) hb1); obtain ⟨hc1, hf1⟩ := bcell hb1; have hz1 := hb1.size; have hz2 : w.heap.size + 1 < w1.heap.size := (by simp at hz1; omega))
  | (go_at_call 15; refine (HM.out _ HB1.out).mono ?_; rintro e w2 ⟨rfl, hb2⟩; have HB2 := Lib.hid (bgo HB1.out hb2); obtain ⟨hc2, hf2⟩ := bcell hb2; have hz3 := hb2.size; have hz4 : gx < w2.heap.size := (Nat.lt_of_lt_of_le hg HB2.out.size); have k0 := HC.out w2 HB2.out 0 _ rfl; have k1 := HC.out w2 HB2.out 1 _ rfl; have k2 := HC.out w2 HB2.out 2 _ rfl; have k3 := HC.out w2 HB2.out 3 _ rfl; have k4 := HC.out w2 HB2.out 4 _ rfl; have k5 := HC.out w2 HB2.out 5 _ rfl; have k6 := HC.out w2 HB2.out 6 _ rfl; have k7 := HC.out w2 HB2.out 7 _ rfl; rw [Nat.add_zero] at k0; have f0 := HZ.out w2 HB2.out (i * 8); have f1 := HZ.out w2 HB2.out (i * 8 + 1); have f2 := HZ.out w2 HB2.out (i * 8 + 2); have f3 := HZ.out w2 HB2.out (i * 8 + 3); have f4 := HZ.out w2 HB2.out (i * 8 + 4); have f5 := HZ.out w2 HB2.out (i * 8 + 5); have f6 := HZ.out w2 HB2.out (i * 8 + 6); have f7 := HZ.out w2 HB2.out (i * 8 + 7)))
 go_ret
 have hs := HF.out w2 HB2.out
 rw [setL_C] at hs
 exact ⟨rfl, hs⟩
end TabS
end
section
open Go.RowKit Go.Shelf
variable {P : Program} {F : Fence} {n : Nat}
def _root_.Go.Obj.rowOf (E : TypeId) : Obj → Bool
 | .cells _ t _ => t == E
 | _ => false
def HiKept (E : TypeId) (B : Nat) (A A' : World) : Prop := A.heap.size ≤ A'.heap.size ∧ ∀ (k : Nat) (o : Obj), B ≤ k → A.heap[k]? = some o → o.rowOf E = false → A'.heap[k]? = some o
theorem HiKept.mono {E : TypeId} {B B' : Nat} {A A' : World} (h : HiKept E B A A') (hb : B ≤ B') : HiKept E B' A A' := ⟨h.1, fun k o hk => h.2 k o (by omega)⟩
theorem HiKept.trans {E : TypeId} {B : Nat} {a b c : World} (h : HiKept E B a b) (k : HiKept E B b c) : HiKept E B a c := ⟨Nat.le_trans h.1 k.1, fun j o hj hl ho => k.2 j o hj (h.2 j o hj hl ho) ho⟩
theorem HiKept.below {E : TypeId} {B : Nat} {a b : World} (h : Below a.heap.size a b) : HiKept E B a b := ⟨h.size, fun k o _ hl _ => (h.block k (ags hl).1).trans hl⟩
def SeqPx (E : TypeId) (F : Fence) (n : Nat) (P : Program) (g : Nat) (lb : Array Value) (encs : Nat → Array Value) (I : Nat → World → Prop) (N B : Nat) : Prop :=
 ∀ (l : Nat) (J Jx : Nat → World → Prop) (W : World), B ≤ W.heap.size → OwnFrom W.heap.size J → OwnFrom W.heap.size Jx → (∀ k W1, J k W1 → I k W1) →
  (∀ k W1, k < N → J k W1 → YieldAt F (n - 1) P l (encs k) W1 fun e W' => (e = .returned (.bool true) ∧ J (k + 1) W' ∧ HiKept E W.heap.size W1 W') ∨ (e = .returned (.bool false) ∧ Jx k W' ∧ HiKept E W.heap.size W1 W')) →
  J 0 W → CallsIn F n P g (#[.func (.yield l) #[] #[]] ++ lb) W fun e W' => (∃ v, e = .returned v) ∧ (J N W' ∨ ∃ k, k < N ∧ Jx k W')
def pxPost (E : TypeId) (I : Nat → World → Prop) (Ix : Code → Nat → World → Prop) (k B : Nat) (W : World) : Exit → Act → World → Prop
 | .normal, _, W' => HiKept E B W W' ∧ I (k + 1) W'
 | .ret, _, W' => HiKept E B W W' ∧ Ix .ret k W'
 | .exit id, _, W' => HiKept E B W W' ∧ Ix (.exit id) k W'
 | .goto t, _, W' => HiKept E B W W' ∧ Ix (.goto t) k W'
 | .panic _, _, _ => False
 | .outgrown, _, _ => False
theorem wpIn_range_px {g : Operand} {ps : Array Tmp} {assign body : Code} {Q : Exit → Act → World → Prop} {a : Act} {w : World}
  (hro : F.round = none) (h1 : 1 ≤ n) {gf : Nat} {lb : Array Value} (hg : a.eval g = .func (.func gf) #[] lb) (hFg : F.fn gf) (eg : ∀ args w, (callFunc gf args).run P w = .ok (.enter gf args) w)
  {encs : Nat → Array Value} {N : Nat} (E : TypeId) (I : Nat → World → Prop) (Ix : Code → Nat → World → Prop) (hseq : SeqPx E F (n - 1) P gf lb encs I N w.heap.size) (hps : ∀ x, (encs x).size = ps.size)
  (hI : OwnFrom w.heap.size I) (hIx : ∀ c, OwnFrom w.heap.size (Ix c)) (h0 : I 0 w) (a₁ : Nat → Act)
  (hassign : ∀ (l : Nat) (x : Nat) (W : World) (K : Act → World → Prop), K (a₁ x) W →
   assign.wpIn (F.inRound l) (n - 1 - 1) P (Exit.then K (fun _ _ _ => False)) { tmps := (ps.zip (encs x)).foldl (fun t (p, v) => t.setIfInBounds p v) a.tmps, defers := [] } W)
  (hbody : ∀ (l k : Nat) (W : World), k < N → I k W → body.wpIn (F.inRound l) (n - 1 - 1) P (pxPost E I Ix k w.heap.size W) (a₁ k) W)
  (hdone : ∀ (D : Nat) (W : World), w.heap.size ≤ D → I N W → W.heap[D]? = some (.deferred (some [])) → Q .normal { a with defers := { target := .collected D, args := #[] } :: a.defers } W)
  (hstop : ∀ (D : Nat) (c : Code) (k : Nat) (W : World), w.heap.size ≤ D → k < N → Ix c k W → W.heap[D]? = some (.deferred (some [])) → c.wpIn F n P Q { a with defers := { target := .collected D, args := #[] } :: a.defers } W) :
  (Code.rangeFunc g ps assign body).wpIn F n P Q a w := by
 refine wpIn_rangeFunc ?_
 intro fn hfn
 rw [hro]
 obtain ⟨rc, hrc⟩ : ∃ rc : LoopState → Option Code → Loop, rc = fun st pe => { state := st, pending := pe, fn, tmps := a.tmps, params := ps, assign, body, defers := w.heap.size } := ⟨_, rfl⟩
 have hent := run_enterLoop_outer (P := P) (w := w) fn a.tmps ps assign body
 obtain ⟨W1, hW1⟩ : ∃ W1, W1 = (w.alloc (.deferred (some []))).alloc (.loop (rc .ready none)) := ⟨_, rfl⟩
 have rec1 : W1.heap[w.heap.size + 1]? = some (.loop (rc .ready none)) := by
  have e := World.alloc_heap_new (w.alloc (.deferred (some []))) (.loop (rc .ready none))
  rw [World.size_alloc] at e
  rw [hW1]; exact e
 have def1 : W1.heap[w.heap.size]? = some (.deferred (some [])) := by
  rw [hW1, Below.heap_alloc _ _ _ (by simp)]
  exact World.alloc_heap_new w _
 have inv1 : I 0 W1 := by rw [hW1]; exact hI.alloc _ (hI.alloc _ h0)
 have siz1 : w.heap.size + 2 ≤ W1.heap.size := by rw [hW1]; simp
 refine ⟨w.heap.size + 1, [{ target := .collected w.heap.size, args := #[] }], W1, { target := .fn (.func gf) lb, args := #[.func (.yield (w.heap.size + 1)) #[] #[]] }, W1, gf, #[.func (.yield (w.heap.size + 1)) #[] #[]] ++ lb, W1, ?_, ?_, ?_, ?_, fun _ => h1, ?_⟩
 ·rw [hW1, hrc]; exact hent
 ·simp only [resolve, hg]
  simp [go_sem]
 ·intro f' hf'
  simp [Target.leads] at hf'
  exact hf' ▸ hFg
 ·simp [invoke, go_sem, eg]
 have keep : ∀ {A B : World} {row : Option Nat} {k : Nat} {o : Obj}, A.grownBy B row → (∀ r, row = some r → W1.heap.size ≤ r ∧ ∃ o : Obj, A.heap[r]? = some o ∧ o.isCells = false) → k < w.heap.size + 2 → A.heap[k]? = some o → B.heap[k]? = some o := by
  intro A B row k o hgr hr hk ho
  exact (hgr.block _ (ags ho).1 (fun e => by have := (hr _ e.symm).1; omega)).trans ho
 have hw : ∀ {A : World} {row : Option Nat}, (∀ r, row = some r → W1.heap.size ≤ r ∧ ∃ o : Obj, A.heap[r]? = some o ∧ o.isCells = false) → ∀ r, row = some r → w.heap.size ≤ r ∧ ∃ o : Obj, A.heap[r]? = some o ∧ o.isCells = false := by
  intro A row hr r e
  obtain ⟨hB, ho⟩ := hr r e
  exact ⟨by omega, ho⟩
 refine (hseq (w.heap.size + 1) (fun k W => I k W ∧ W.heap[w.heap.size + 1]? = some (.loop (rc .ready none)) ∧ W.heap[w.heap.size]? = some (.deferred (some [])))
  (fun k W => ∃ c, Ix c k W ∧ W.heap[w.heap.size + 1]? = some (.loop (rc .done (some c))) ∧ W.heap[w.heap.size]? = some (.deferred (some []))) W1 (by omega) ?_ ?_ (fun _ _ h => h.1) ?_ ⟨inv1, rec1, def1⟩).mono ?_
 ·intro s A B row hs hgr hr
  exact ⟨hI s A B row hs.1 hgr (hw hr), keep hgr hr (by omega) hs.2.1, keep hgr hr (by omega) hs.2.2⟩
 ·intro s A B row hs hgr hr
  obtain ⟨c, hc, h2, h3⟩ := hs
  exact ⟨c, hIx c s A B row hc hgr (hw hr), keep hgr hr (by omega) h2, keep hgr hr (by omega) h3⟩
 ·-- a round
  rintro k W hkN ⟨hi, hl, hk⟩
  have hlt : w.heap.size + 1 < W.heap.size := (ags hl).1
  have hy := run_yield (P := P) (args := encs k) hl (by rw [hrc]; exact hps k)
  rw [hrc] at hy
  obtain ⟨U, hU⟩ : ∃ U, U = W.putObj (w.heap.size + 1) (.loop { rc .ready none with state := .busy }) := ⟨_, rfl⟩
  have recU : U.heap[w.heap.size + 1]? = some (.loop { rc .ready none with state := .busy }) := by rw [hU]; exact World.putObj_heap_same hlt
  have defU : U.heap[w.heap.size]? = some (.deferred (some [])) := by rw [hU]; exact (World.putObj_heap_other (by omega)).trans hk
  have invU : I k U := by rw [hU]; exact hI.putObj _ hi (by omega) hl rfl
  have h9 : U.heap.size = W.heap.size := by rw [hU]; simp [World.putObj]
  refine ⟨fn, _, assign, body, hy, roundIn_of_wpIn hfn (hassign _ k W _ ⟨_, run_beginRound hl (by rw [hrc]), ?_⟩)⟩
  rw [← hU]
  refine wpIn_mono (hbody _ k U hkN invU) ?_
  have fin : ∀ (jump : Option Code) (W3 : World), HiKept E w.heap.size U W3 →
    (Instr.endRound (w.heap.size + 1) jump).run P W3 = .ok (.bool jump.isNone) (W3.putObj (w.heap.size + 1) (.loop (rc (if jump.isNone then .ready else .done) jump))) ∧
    W3.heap[w.heap.size + 1]? = some (.loop { rc .ready none with state := .busy }) ∧
    (W3.putObj (w.heap.size + 1) (.loop (rc (if jump.isNone then .ready else .done) jump))).heap[w.heap.size + 1]? = some (.loop (rc (if jump.isNone then .ready else .done) jump)) ∧
    (W3.putObj (w.heap.size + 1) (.loop (rc (if jump.isNone then .ready else .done) jump))).heap[w.heap.size]? = some (.deferred (some [])) ∧
    HiKept E W1.heap.size W (W3.putObj (w.heap.size + 1) (.loop (rc (if jump.isNone then .ready else .done) jump))) := fun jump W3 hk3 => by
   have rec3 := hk3.2 _ _ (by omega) recU rfl
   have def3 := hk3.2 _ _ (by omega) defU rfl
   have hend := run_endRound (P := P) jump rec3
   have lt3 : w.heap.size + 1 < W3.heap.size := (ags rec3).1
   rw [hrc] at hend rec3
   refine ⟨by rw [hrc]; exact hend, by rw [hrc]; exact rec3, World.putObj_heap_same lt3, (World.putObj_heap_other (by omega)).trans def3, ?_, ?_⟩
   ·have h8 := hk3.1
    simp only [World.putObj, Array.size_setIfInBounds]
    omega
   ·intro j o hjB hjl ho
    have hU' : U.heap[j]? = some o := by rw [hU]; exact (World.putObj_heap_other (by omega)).trans hjl
    exact (World.putObj_heap_other (by omega)).trans (hk3.2 _ _ (by omega) hU' ho)
  rintro e a3 W3 hp
  cases e with
  | normal =>
   obtain ⟨hk3, hi3⟩ := hp
   obtain ⟨hr, hl3, hl4, hk4, hH⟩ := fin none W3 hk3
   exact ⟨_, _, hr, .inl ⟨rfl, ⟨hI.putObj _ hi3 (by omega) hl3 rfl, hl4, hk4⟩, hH⟩⟩
  | ret =>
   obtain ⟨hk3, hi3⟩ := hp
   obtain ⟨hr, hl3, hl4, hk4, hH⟩ := fin (some .ret) W3 hk3
   exact ⟨_, _, hr, .inr ⟨rfl, ⟨.ret, (hIx _).putObj _ hi3 (by omega) hl3 rfl, hl4, hk4⟩, hH⟩⟩
  | exit id =>
   obtain ⟨hk3, hi3⟩ := hp
   obtain ⟨hr, hl3, hl4, hk4, hH⟩ := fin (some (.exit id)) W3 hk3
   exact ⟨_, _, hr, .inr ⟨rfl, ⟨.exit id, (hIx _).putObj _ hi3 (by omega) hl3 rfl, hl4, hk4⟩, hH⟩⟩
  | goto t =>
   obtain ⟨hk3, hi3⟩ := hp
   obtain ⟨hr, hl3, hl4, hk4, hH⟩ := fin (some (.goto t)) W3 hk3
   exact ⟨_, _, hr, .inr ⟨rfl, ⟨.goto t, (hIx _).putObj _ hi3 (by omega) hl3 rfl, hl4, hk4⟩, hH⟩⟩
  | panic ch => exact hp.elim
  | outgrown => exact hp.elim
 ·-- behind the iterator
  rintro e W2 ⟨⟨v, rfl⟩, ⟨hi, hl, hk⟩ | ⟨k, hkN, c, hi, hl, hk⟩⟩
  ·have hend := run_endLoop (P := P) hl (by rw [hrc]; simp)
   rw [hrc] at hend
   exact ⟨none, _, hend, hdone _ _ (Nat.le_refl _) (hI.putObj _ hi (by omega) hl rfl) ((World.putObj_heap_other (by omega)).trans hk)⟩
  ·have hend := run_endLoop (P := P) hl (by rw [hrc]; simp)
   rw [hrc] at hend
   exact ⟨some c, _, hend, hstop _ c k _ (Nat.le_refl _) hkN ((hIx c).putObj _ hi (by omega) hl rfl) ((World.putObj_heap_other (by omega)).trans hk)⟩
theorem round_any {l' m m' : Nat} {P : Program} {l : Nat} {f : FuncId} {tmps : Array Value} {assign body : Code} {w : World} {R : Ending → World → Prop} (h : RoundIn Fence.wide m P l f tmps assign body w R) : RoundIn (Fence.wide.inRound l') m' P l f tmps assign body w R := ⟨h.1, fun c cs _ => h.2 c cs (fun d h => by cases h)⟩
theorem two_ways {A B : World → Prop} {e : Ending} {W : World} (h : (e = .returned (.bool true) ∧ A W) ∨ (e = .returned (.bool false) ∧ B W)) : ∃ t, e = .returned (.bool t) ∧ (t = true → A W) ∧ (t = false → B W) := by
 rcases h with ⟨h1, h2⟩ | ⟨h1, h2⟩
 ·exact ⟨true, h1, fun _ => h2, fun e => (by cases e)⟩
 ·exact ⟨false, h1, fun e => (by cases e), fun _ => h2⟩
theorem cell_of_block {W W' : World} {b j : Nat} (h : W'.heap[b]? = W.heap[b]?) : W'.cell? ⟨b, j, none⟩ = W.cell? ⟨b, j, none⟩ := World.cell?_of_block h
end
end Go.Proofs.YtchjfeafkmpmbaaGreatDoor
