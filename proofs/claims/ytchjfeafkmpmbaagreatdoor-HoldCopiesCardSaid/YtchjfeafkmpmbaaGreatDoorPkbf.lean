import Derived.Test.YtchjfeafkmpmbaaGreatDoorPkbe
namespace Go.Proofs.YtchjfeafkmpmbaaGreatDoor
set_option linter.unusedVariables false
set_option linter.unusedSimpArgs false
set_option maxRecDepth 100000
set_option maxHeartbeats 8000000
open Lib (hid)
section
open Go.ChangeShapes Go.WideShapes Go.ChangeAt Go.RowKit Go.Shelf
namespace HdS
open TabS (Cp Sn zC mayC sizS getR getN Two Pr FootP foot_ltP foot_ltR SameS AddRel addSR setN setM rowsS hasS dropSR dropSL heldA hdsC)
variable {W w w' : World} {s : Sh} {hb rhb n n' : Nat} {L M L' M' : List Sn} {l l2 l' l2' : List Nod} {S : Nat → Prop}
def rdrN (M : List Sn) (o i p j : Int) (r : Cp × Int) : Int := if pairN M o i p j ≠ 0 then pairN M o i p j else if r.2 ≠ 0 then r.2 else rchN M o i p j r.1
theorem rcopy (h : Hd W s hb rhb n L M l l2 S w) (hA : Asc (rowsS M)) (hl : M.length < 1000000) (o i p j : Int) (m : Int) (hlen : l2.length < 1000) (hdd : ∀ x ∈ l2, x.d < 1000)  :
  Calls Tryz.prog 39 #[.pointer (some ⟨rhb, 0, none⟩), slV o i, slV p j, .int .i64 m] w fun e w' => e = .returned (.int .i64 (rdrN M o i p j (cpy (gt M o i) m))) ∧ Hd W s hb rhb n L (derL M o i p j (cpy (gt M o i) m)) l (derT M l2 o i p j (cpy (gt M o i) m)) S w' ∧ SameK S w w' := by
 unfold rdrN derL derT
 obtain ⟨hb1, hs1, ht1⟩ := duo_boxes w o i p j
 obtain ⟨w1, hw1⟩ : ∃ y, y = (w.alloc (slO o i)).alloc (slO p j) := ⟨_, rfl⟩
 rw [← hw1] at hb1 hs1 ht1
 have HB1 := hid hb1
 have HV1 := hid (Below.refl w1.heap.size w1)
 have HH := hid h
 have HXA := hid hs1
 have HXB := hid ht1
 have HE : Hid (∀ v, Below w1.heap.size w1 v → Hd W s hb rhb n L M l l2 S v) := hid (fun v hv => (h.call hb1).call hv)
 have HFR : Hid (∀ v, Below w1.heap.size w1 v → Calls Tryz.prog 87 #[.pointer (some ⟨rhb, 0, none⟩), slV o i, slV p j] v fun e w' => e = .returned (.int .i64 (pairN M o i p j)) ∧ Below v.heap.size v w') := hid (fun v hv => rfrom (HE.out v hv) hA hl o i p j)
 by_cases hon : pairN M o i p j = 0
 ·rw [if_neg (fun e => e hon)]
  rw [hon] at HFR
  have HCa : Hid (∀ v, Below w1.heap.size w1 v → Calls Tryz.prog 81 #[.pointer (some ⟨rhb, 0, none⟩), slV o i] v fun e w' => e = .returned (gt M o i).V ∧ Below v.heap.size v w') := hid (fun v hv => rcap (HE.out v hv) hA hl o i)
  have HCD : Hid (∀ v, Calls Tryz.prog 88 #[(gt M o i).V, .int .i64 m] v fun e w' => e = .returned (.tuple #[(cpy (gt M o i) m).1.V, .int .i64 (cpy (gt M o i) m).2]) ∧ Below v.heap.size v w') := hid (fun v => rcopy14 v (gt M o i) m)
  generalize (cpy (gt M o i) m) = r at *
  have HCH := hid (fun (v : World) (hv : Hd W s hb rhb n L M l l2 S v) => rchild hv hA hl o i p j r.1 hlen hdd)
  have HP := hid hon
  have HW := hid hw1
  clear h hw1 hb1 hs1 ht1 hA hl hon hlen hdd
  obtain ⟨⟨ca, cb, cx, cd, ce, cf, cg, ch⟩, k⟩ := r
  obtain ⟨N, hN⟩ : ∃ y, y = rchN M o i p j ⟨ca, cb, cx, cd, ce, cf, cg, ch⟩ := ⟨_, rfl⟩
  obtain ⟨L2, hL2⟩ : ∃ y, y = chL M o i p j ⟨ca, cb, cx, cd, ce, cf, cg, ch⟩ := ⟨_, rfl⟩
  obtain ⟨l3, hl3⟩ : ∃ y, y = chT M l2 o i p j ⟨ca, cb, cx, cd, ce, cf, cg, ch⟩ := ⟨_, rfl⟩
  rw [← hN, ← hL2, ← hl3] at HCH
  simp only []
  rw [← hN, ← hL2, ← hl3]
  clear hN hL2 hl3
  obtain ⟨RN, hRN⟩ : ∃ y : Int, y = (if k ≠ 0 then k else N) := ⟨_, rfl⟩
  obtain ⟨RL, hRL⟩ : ∃ y : List Sn, y = (if pairN M o i p j = 0 ∧ k = 0 then L2 else M) := ⟨_, rfl⟩
  obtain ⟨RT, hRT⟩ : ∃ y : List Nod, y = (if pairN M o i p j = 0 ∧ k = 0 then l3 else l2) := ⟨_, rfl⟩
  rw [← hRN, ← hRL, ← hRT]
  have HRN := hid hRN
  have HRL := hid hRL
  have HRT := hid hRT
  clear hRN hRL hRT
  generalize gt M o i = t at *
  obtain ⟨ta, tb, tx, td, te, tf, tg, th⟩ := t
  go_enter Tryz.func39, Tryz.ntmps39
  go_upto_region 1 with fail
  rw [show ((w.alloc (slO o i)).alloc (slO p j)) = w1 from HW.out.symm]
  obtain ⟨k0, k1⟩ := slot_cells (((HV1.out).block _ (ags HXA.out).1).trans HXA.out)
  obtain ⟨r0, r1⟩ := slot_cells (((HV1.out).block _ (ags HXB.out).1).trans HXB.out)
  go_upto_region 4 with (go_at_call 87; (with_reducible refine (HFR.out _ HV1.out).mono ?_); rintro e w2 ⟨rfl, hb2⟩; have HV2 := hid (HV1.out.trans (hb2.mono HV1.out.size)); clear hb2)
  clear k0 k1 r0 r1
  obtain ⟨k0, k1⟩ := slot_cells (((HV2.out).block _ (ags HXA.out).1).trans HXA.out)
  go_upto_region 5 with (first | (go_at_call 81; (with_reducible refine (HCa.out _ HV2.out).mono ?_); rintro e w3 ⟨rfl, hb3⟩; have HV3 := hid (HV2.out.trans (hb3.mono HV2.out.size)); clear hb3) | (go_at_call 88; (with_reducible refine (HCD.out _).mono ?_); rintro e w4 ⟨rfl, hb4⟩; have HV4 := hid (HV3.out.trans (hb4.mono HV3.out.size)); clear hb4))
  clear k0 k1
  obtain ⟨w5, hw5⟩ : ∃ y, y = w4.alloc (.cells #[.int .i64 ca, .int .i64 cb, .int .i64 cx, .int .u64 cd, .int .i64 ce, .int .i64 cf, .int .i64 cg, .int .i64 ch] 33) := ⟨_, rfl⟩
  have HV5 : Hid (Below w1.heap.size w1 w5) := hid (hw5 ▸ bal HV4.out _)
  have hx5 : w5.heap[w4.heap.size]? = some (.cells (⟨ca, cb, cx, cd, ce, cf, cg, ch⟩ : Cp).L.toArray 33 (0, 0)) := by rw [hw5]; exact heap_alloc_new w4 _
  have HB5 := hid (HB1.out.trans (HV5.out.mono HB1.out.size))
  have HC5 := hid (HCH.out w5 (HH.out.call HB5.out))
  rw [← hw5]
  generalize w4.heap.size = yB at *
  obtain ⟨k0, k1⟩ := slot_cells (((HV5.out).block _ (ags HXA.out).1).trans HXA.out)
  obtain ⟨r0, r1⟩ := slot_cells (((HV5.out).block _ (ags HXB.out).1).trans HXB.out)
  obtain ⟨x0, x1, x2, x3, x4, x5, x6, x7⟩ := cap_cells hx5
  simp only [] at x0 x1 x2 x3 x4 x5 x6 x7
  clear hw5 hx5 HCH HCa HCD HFR
  by_cases hk : k = 0
  ·subst hk
   obtain rfl : N = RN := Eq.symm (by rw [HRN.out, if_neg (fun e => e rfl)])
   obtain rfl : L2 = RL := Eq.symm (by rw [HRL.out, if_pos ⟨HP.out, rfl⟩])
   obtain rfl : l3 = RT := Eq.symm (by rw [HRT.out, if_pos ⟨HP.out, rfl⟩])
   go_wp2_with (go_at_call 36; (with_reducible refine HC5.out.mono ?_); rintro e w6 ⟨rfl, h6, hk6⟩; have H6 := hid h6; have HK6 := hid hk6; clear h6 hk6)
   go_ret
   exact ⟨rfl, H6.out, fun k q => (HK6.out k q).trans (HB5.out.block k (HH.out.lt q))⟩
  ·have HK := hid hk
   have hRN := HRN.out
   have hRL := HRL.out
   have hRT := HRT.out
   rw [if_pos hk] at hRN
   rw [if_neg (fun e => HK.out e.2)] at hRL hRT
   have hk' : (k == 0) = false := beq_eq_false_iff_ne.2 hk
   subst hRN hRL hRT
   go_wp2
   go_ret
   exact ⟨rfl, HH.out.call HB5.out, HH.out.same HB5.out⟩
 ·rw [if_pos hon, if_neg (fun e => hon e.1), if_neg (fun e => hon e.1)]
  have hpp : (pairN M o i p j == 0) = false := beq_eq_false_iff_ne.2 hon
  generalize pairN M o i p j = N at *
  have HW := hid hw1
  clear h hw1 hb1 hs1 ht1 hA hl hlen hdd
  go_enter Tryz.func39, Tryz.ntmps39
  go_upto_region 1 with fail
  rw [show ((w.alloc (slO o i)).alloc (slO p j)) = w1 from HW.out.symm]
  obtain ⟨k0, k1⟩ := slot_cells (((HV1.out).block _ (ags HXA.out).1).trans HXA.out)
  obtain ⟨r0, r1⟩ := slot_cells (((HV1.out).block _ (ags HXB.out).1).trans HXB.out)
  go_wp2_with (go_at_call 87; (with_reducible refine (HFR.out _ HV1.out).mono ?_); rintro e w2 ⟨rfl, hb2⟩; have HV2 := hid (HV1.out.trans (hb2.mono HV1.out.size)); clear hb2)
  go_ret
  have HB2 := HB1.out.trans (HV2.out.mono HB1.out.size)
  exact ⟨rfl, HH.out.call HB2, HH.out.same HB2⟩
theorem rmint (h : Hd W s hb rhb n L M l l2 S w) (hA : Asc (rowsS M)) (hl : M.length < 1000000) (o i p j : Int) (m : Int) (d : Nat) (hlen : l2.length < 1000) (hdd : ∀ x ∈ l2, x.d < 1000) (hd : d < 2 ^ 64) :
  Calls Tryz.prog 40 #[.pointer (some ⟨rhb, 0, none⟩), slV o i, slV p j, .int .i64 m, .int .u64 d] w fun e w' => e = .returned (.int .i64 (rdrN M o i p j (mnt (gt M o i) m d))) ∧ Hd W s hb rhb n L (derL M o i p j (mnt (gt M o i) m d)) l (derT M l2 o i p j (mnt (gt M o i) m d)) S w' ∧ SameK S w w' := by
 unfold rdrN derL derT
 obtain ⟨hb1, hs1, ht1⟩ := duo_boxes w o i p j
 obtain ⟨w1, hw1⟩ : ∃ y, y = (w.alloc (slO o i)).alloc (slO p j) := ⟨_, rfl⟩
 rw [← hw1] at hb1 hs1 ht1
 have HB1 := hid hb1
 have HV1 := hid (Below.refl w1.heap.size w1)
 have HH := hid h
 have HXA := hid hs1
 have HXB := hid ht1
 have HE : Hid (∀ v, Below w1.heap.size w1 v → Hd W s hb rhb n L M l l2 S v) := hid (fun v hv => (h.call hb1).call hv)
 have HFR : Hid (∀ v, Below w1.heap.size w1 v → Calls Tryz.prog 87 #[.pointer (some ⟨rhb, 0, none⟩), slV o i, slV p j] v fun e w' => e = .returned (.int .i64 (pairN M o i p j)) ∧ Below v.heap.size v w') := hid (fun v hv => rfrom (HE.out v hv) hA hl o i p j)
 by_cases hon : pairN M o i p j = 0
 ·rw [if_neg (fun e => e hon)]
  rw [hon] at HFR
  have HCa : Hid (∀ v, Below w1.heap.size w1 v → Calls Tryz.prog 81 #[.pointer (some ⟨rhb, 0, none⟩), slV o i] v fun e w' => e = .returned (gt M o i).V ∧ Below v.heap.size v w') := hid (fun v hv => rcap (HE.out v hv) hA hl o i)
  have HCD : Hid (∀ v, Calls Tryz.prog 89 #[(gt M o i).V, .int .i64 m, .int .u64 d] v fun e w' => e = .returned (.tuple #[(mnt (gt M o i) m d).1.V, .int .i64 (mnt (gt M o i) m d).2]) ∧ Below v.heap.size v w') := hid (fun v => rmint14 v (gt M o i) m d hd)
  generalize (mnt (gt M o i) m d) = r at *
  have HCH := hid (fun (v : World) (hv : Hd W s hb rhb n L M l l2 S v) => rchild hv hA hl o i p j r.1 hlen hdd)
  have HP := hid hon
  have HW := hid hw1
  clear h hw1 hb1 hs1 ht1 hA hl hon hlen hdd hd
  obtain ⟨⟨ca, cb, cx, cd, ce, cf, cg, ch⟩, k⟩ := r
  obtain ⟨N, hN⟩ : ∃ y, y = rchN M o i p j ⟨ca, cb, cx, cd, ce, cf, cg, ch⟩ := ⟨_, rfl⟩
  obtain ⟨L2, hL2⟩ : ∃ y, y = chL M o i p j ⟨ca, cb, cx, cd, ce, cf, cg, ch⟩ := ⟨_, rfl⟩
  obtain ⟨l3, hl3⟩ : ∃ y, y = chT M l2 o i p j ⟨ca, cb, cx, cd, ce, cf, cg, ch⟩ := ⟨_, rfl⟩
  rw [← hN, ← hL2, ← hl3] at HCH
  simp only []
  rw [← hN, ← hL2, ← hl3]
  clear hN hL2 hl3
  obtain ⟨RN, hRN⟩ : ∃ y : Int, y = (if k ≠ 0 then k else N) := ⟨_, rfl⟩
  obtain ⟨RL, hRL⟩ : ∃ y : List Sn, y = (if pairN M o i p j = 0 ∧ k = 0 then L2 else M) := ⟨_, rfl⟩
  obtain ⟨RT, hRT⟩ : ∃ y : List Nod, y = (if pairN M o i p j = 0 ∧ k = 0 then l3 else l2) := ⟨_, rfl⟩
  rw [← hRN, ← hRL, ← hRT]
  have HRN := hid hRN
  have HRL := hid hRL
  have HRT := hid hRT
  clear hRN hRL hRT
  generalize gt M o i = t at *
  obtain ⟨ta, tb, tx, td, te, tf, tg, th⟩ := t
  go_enter Tryz.func40, Tryz.ntmps40
  go_upto_region 1 with fail
  rw [show ((w.alloc (slO o i)).alloc (slO p j)) = w1 from HW.out.symm]
  obtain ⟨k0, k1⟩ := slot_cells (((HV1.out).block _ (ags HXA.out).1).trans HXA.out)
  obtain ⟨r0, r1⟩ := slot_cells (((HV1.out).block _ (ags HXB.out).1).trans HXB.out)
  go_upto_region 4 with (go_at_call 87; (with_reducible refine (HFR.out _ HV1.out).mono ?_); rintro e w2 ⟨rfl, hb2⟩; have HV2 := hid (HV1.out.trans (hb2.mono HV1.out.size)); clear hb2)
  clear k0 k1 r0 r1
  obtain ⟨k0, k1⟩ := slot_cells (((HV2.out).block _ (ags HXA.out).1).trans HXA.out)
  go_upto_region 5 with (first | (go_at_call 81; (with_reducible refine (HCa.out _ HV2.out).mono ?_); rintro e w3 ⟨rfl, hb3⟩; have HV3 := hid (HV2.out.trans (hb3.mono HV2.out.size)); clear hb3) | (go_at_call 89; (with_reducible refine (HCD.out _).mono ?_); rintro e w4 ⟨rfl, hb4⟩; have HV4 := hid (HV3.out.trans (hb4.mono HV3.out.size)); clear hb4))
  clear k0 k1
  obtain ⟨w5, hw5⟩ : ∃ y, y = w4.alloc (.cells #[.int .i64 ca, .int .i64 cb, .int .i64 cx, .int .u64 cd, .int .i64 ce, .int .i64 cf, .int .i64 cg, .int .i64 ch] 33) := ⟨_, rfl⟩
  have HV5 : Hid (Below w1.heap.size w1 w5) := hid (hw5 ▸ bal HV4.out _)
  have hx5 : w5.heap[w4.heap.size]? = some (.cells (⟨ca, cb, cx, cd, ce, cf, cg, ch⟩ : Cp).L.toArray 33 (0, 0)) := by rw [hw5]; exact heap_alloc_new w4 _
  have HB5 := hid (HB1.out.trans (HV5.out.mono HB1.out.size))
  have HC5 := hid (HCH.out w5 (HH.out.call HB5.out))
  rw [← hw5]
  generalize w4.heap.size = yB at *
  obtain ⟨k0, k1⟩ := slot_cells (((HV5.out).block _ (ags HXA.out).1).trans HXA.out)
  obtain ⟨r0, r1⟩ := slot_cells (((HV5.out).block _ (ags HXB.out).1).trans HXB.out)
  obtain ⟨x0, x1, x2, x3, x4, x5, x6, x7⟩ := cap_cells hx5
  simp only [] at x0 x1 x2 x3 x4 x5 x6 x7
  clear hw5 hx5 HCH HCa HCD HFR
  by_cases hk : k = 0
  ·subst hk
   obtain rfl : N = RN := Eq.symm (by rw [HRN.out, if_neg (fun e => e rfl)])
   obtain rfl : L2 = RL := Eq.symm (by rw [HRL.out, if_pos ⟨HP.out, rfl⟩])
   obtain rfl : l3 = RT := Eq.symm (by rw [HRT.out, if_pos ⟨HP.out, rfl⟩])
   go_wp2_with (go_at_call 36; (with_reducible refine HC5.out.mono ?_); rintro e w6 ⟨rfl, h6, hk6⟩; have H6 := hid h6; have HK6 := hid hk6; clear h6 hk6)
   go_ret
   exact ⟨rfl, H6.out, fun k q => (HK6.out k q).trans (HB5.out.block k (HH.out.lt q))⟩
  ·have HK := hid hk
   have hRN := HRN.out
   have hRL := HRL.out
   have hRT := HRT.out
   rw [if_pos hk] at hRN
   rw [if_neg (fun e => HK.out e.2)] at hRL hRT
   have hk' : (k == 0) = false := beq_eq_false_iff_ne.2 hk
   subst hRN hRL hRT
   go_wp2
   go_ret
   exact ⟨rfl, HH.out.call HB5.out, HH.out.same HB5.out⟩
 ·rw [if_pos hon, if_neg (fun e => hon e.1), if_neg (fun e => hon e.1)]
  have hpp : (pairN M o i p j == 0) = false := beq_eq_false_iff_ne.2 hon
  generalize pairN M o i p j = N at *
  have HW := hid hw1
  clear h hw1 hb1 hs1 ht1 hA hl hlen hdd
  go_enter Tryz.func40, Tryz.ntmps40
  go_upto_region 1 with fail
  rw [show ((w.alloc (slO o i)).alloc (slO p j)) = w1 from HW.out.symm]
  obtain ⟨k0, k1⟩ := slot_cells (((HV1.out).block _ (ags HXA.out).1).trans HXA.out)
  obtain ⟨r0, r1⟩ := slot_cells (((HV1.out).block _ (ags HXB.out).1).trans HXB.out)
  go_wp2_with (go_at_call 87; (with_reducible refine (HFR.out _ HV1.out).mono ?_); rintro e w2 ⟨rfl, hb2⟩; have HV2 := hid (HV1.out.trans (hb2.mono HV1.out.size)); clear hb2)
  go_ret
  have HB2 := HB1.out.trans (HV2.out.mono HB1.out.size)
  exact ⟨rfl, HH.out.call HB2, HH.out.same HB2⟩
theorem rmove_no (h : Hd W s hb rhb n L M l l2 S w) (hA : Asc (rowsS M)) (hl : M.length < 1000000) (o i p j : Int) (hno : pairN M o i p j ≠ 0) :
  Calls Tryz.prog 41 #[.pointer (some ⟨rhb, 0, none⟩), slV o i, slV p j] w fun e w' => e = .returned (.int .i64 (pairN M o i p j)) ∧ Below w.heap.size w w' := by
 obtain ⟨hb1, hs1, ht1⟩ := duo_boxes w o i p j
 obtain ⟨w1, hw1⟩ : ∃ y, y = (w.alloc (slO o i)).alloc (slO p j) := ⟨_, rfl⟩
 rw [← hw1] at hb1 hs1 ht1
 have HB1 := hid hb1
 have HV1 := hid (Below.refl w1.heap.size w1)
 have HH := hid h
 have HXA := hid hs1
 have HXB := hid ht1
 have HE : Hid (∀ v, Below w1.heap.size w1 v → Hd W s hb rhb n L M l l2 S v) := hid (fun v hv => (h.call hb1).call hv)
 have HFR : Hid (∀ v, Below w1.heap.size w1 v → Calls Tryz.prog 87 #[.pointer (some ⟨rhb, 0, none⟩), slV o i, slV p j] v fun e w' => e = .returned (.int .i64 (pairN M o i p j)) ∧ Below v.heap.size v w') := hid (fun v hv => rfrom (HE.out v hv) hA hl o i p j)
 have hpp : (pairN M o i p j == 0) = false := beq_eq_false_iff_ne.2 hno
 generalize pairN M o i p j = N at *
 have HW := hid hw1
 clear h hw1 hb1 hs1 ht1 hA hl
 go_enter Tryz.func41, Tryz.ntmps41
 go_upto_region 1 with fail
 rw [show ((w.alloc (slO o i)).alloc (slO p j)) = w1 from HW.out.symm]
 obtain ⟨k0, k1⟩ := slot_cells (((HV1.out).block _ (ags HXA.out).1).trans HXA.out)
 obtain ⟨r0, r1⟩ := slot_cells (((HV1.out).block _ (ags HXB.out).1).trans HXB.out)
 go_wp2_with (go_at_call 87; (with_reducible refine (HFR.out _ HV1.out).mono ?_); rintro e w2 ⟨rfl, hb2⟩; have HV2 := hid (HV1.out.trans (hb2.mono HV1.out.size)); clear hb2)
 go_ret
 exact ⟨rfl, HB1.out.trans (HV2.out.mono HB1.out.size)⟩
theorem rmove_yes (h : Hd W s hb rhb n L M l l2 S w) (hA : Asc (rowsS M)) (hl : M.length < 1000000) (o i p j : Int) (hO : Once l2) (hon : pairN M o i p j = 0) :
  Calls Tryz.prog 41 #[.pointer (some ⟨rhb, 0, none⟩), slV o i, slV p j] w fun e w' => e = .returned (.int .i64 0) ∧ Hd W s hb rhb n L (moveM M o i p j) l (moveA l2 o i p j).1 S w' ∧ SameK S w w' := by
 obtain ⟨hb1, hs1, ht1⟩ := duo_boxes w o i p j
 obtain ⟨w1, hw1⟩ : ∃ y, y = (w.alloc (slO o i)).alloc (slO p j) := ⟨_, rfl⟩
 rw [← hw1] at hb1 hs1 ht1
 have HB1 := hid hb1
 have HV1 := hid (Below.refl w1.heap.size w1)
 have HH := hid h
 have HXA := hid hs1
 have HXB := hid ht1
 have HE : Hid (∀ v, Below w1.heap.size w1 v → Hd W s hb rhb n L M l l2 S v) := hid (fun v hv => (h.call hb1).call hv)
 have HFR : Hid (∀ v, Below w1.heap.size w1 v → Calls Tryz.prog 87 #[.pointer (some ⟨rhb, 0, none⟩), slV o i, slV p j] v fun e w' => e = .returned (.int .i64 (pairN M o i p j)) ∧ Below v.heap.size v w') := hid (fun v hv => rfrom (HE.out v hv) hA hl o i p j)
 rw [hon] at HFR
 obtain ⟨M2, hM2⟩ : ∃ y, y = setM M p j (gt M o i) := ⟨_, rfl⟩
 obtain ⟨M3, hM3⟩ : ∃ y, y = setM M2 o i zC := ⟨_, rfl⟩
 obtain ⟨l3, hl3⟩ : ∃ y, y = (moveA l2 o i p j).1 := ⟨_, rfl⟩
 obtain ⟨mn, hmn⟩ : ∃ y, y = (moveA l2 o i p j).2 := ⟨_, rfl⟩
 obtain ⟨n2, hn2⟩ : ∃ y, y = setN M p j (gt M o i) := ⟨_, rfl⟩
 obtain ⟨n3, hn3⟩ : ∃ y, y = setN M2 o i zC := ⟨_, rfl⟩
 have hl2 : M2.length < 1000000 := by rw [hM2, TabS.set_len]; exact hl
 have hA2 : Asc (rowsS M2) := by rw [hM2]; exact asc_set hA _ _ _
 unfold moveM
 rw [← hM2, ← hM3, ← hl3]
 have HS2 : Hid (∀ v T, Hd W s hb rhb n L M l l2 T v → Calls Tryz.prog 82 #[.pointer (some ⟨s.srb, 0, none⟩), slV p j, (gt M o i).V] v fun e w' => e = .returned (.int .i64 n2) ∧ Hd W s hb rhb n L M2 l l2 T w' ∧ SameK T v w') := hid (fun v T hv => by rw [hM2, hn2]; exact hv.act (fun K hK => hK.rset hA hl p j _))
 have HS3 : Hid (∀ v T, Hd W s hb rhb n L M2 l l2 T v → Calls Tryz.prog 82 #[.pointer (some ⟨s.srb, 0, none⟩), slV o i, .agg #[.int .i64 0, .int .i64 0, .int .i64 0, .int .u64 0, .int .i64 0, .int .i64 0, .int .i64 0, .int .i64 0]] v fun e w' => e = .returned (.int .i64 n3) ∧ Hd W s hb rhb n L M3 l l2 T w' ∧ SameK T v w') := hid (fun v T hv => by rw [hM3, hn3]; exact hv.act (fun K hK => hK.rset hA2 hl2 o i zC))
 have HMV : Hid (∀ v T, Hd W s hb rhb n L M3 l l2 T v → Calls Tryz.prog 90 #[.pointer (some ⟨s.trb, 0, none⟩), slV o i, slV p j] v fun e w' => e = .returned (.int .i64 mn) ∧ Hd W s hb rhb n L M3 l l3 T w' ∧ SameK T v w') := hid (fun v T hv => by rw [hl3, hmn]; exact hv.act (fun K hK => hK.rmove o i p j hO))
 have HCA : Hid (∀ v T, Hd W s hb rhb n L M l l2 T v → Calls Tryz.prog 81 #[.pointer (some ⟨rhb, 0, none⟩), slV o i] v fun e w' => e = .returned (gt M o i).V ∧ Below v.heap.size v w') := hid (fun v T hv => rcap hv hA hl o i)
 generalize gt M o i = t at *
 obtain ⟨ta, tb, tx, td, te, tf, tg, th⟩ := t
 have HW := hid hw1
 clear h hw1 hb1 hs1 ht1 hA hl hon hM2 hM3 hl3 hmn hn2 hn3 hl2 hA2 hO
 go_enter Tryz.func41, Tryz.ntmps41
 go_upto_region 1 with fail
 rw [show ((w.alloc (slO o i)).alloc (slO p j)) = w1 from HW.out.symm]
 obtain ⟨k0, k1⟩ := slot_cells (((HV1.out).block _ (ags HXA.out).1).trans HXA.out)
 obtain ⟨r0, r1⟩ := slot_cells (((HV1.out).block _ (ags HXB.out).1).trans HXB.out)
 go_upto_region 4 with (go_at_call 87; (with_reducible refine (HFR.out _ HV1.out).mono ?_); rintro e w2 ⟨rfl, hb2⟩; have HV2 := hid (HV1.out.trans (hb2.mono HV1.out.size)); clear hb2)
 clear k0 k1 r0 r1
 have BFA0 := hid (((HV2.out).block _ (ags HXA.out).1).trans HXA.out)
 have BFB0 := hid (((HV2.out).block _ (ags HXB.out).1).trans HXB.out)
 have HBW := hid (HB1.out.trans (HV2.out.mono HB1.out.size))
 have HT0 := hid (HH.out.fresh HBW.out)
 have HNA : Hid (New w w2 (w.heap.size)) := hid ⟨by omega, (ags BFA0.out).1⟩
 have HNB : Hid (New w w2 (w.heap.size + 1)) := hid ⟨by omega, (ags BFB0.out).1⟩
 have HAc : Hid (w2.cell? ⟨rhb, 0, none⟩ = some (.pointer (some ⟨s.srb, 0, none⟩)) ∧ w2.cell? ⟨w.heap.size, 0, none⟩ = some (.int .i64 o) ∧ w2.cell? ⟨w.heap.size, 1, none⟩ = some (.int .i64 i) ∧ w2.cell? ⟨w.heap.size + 1, 0, none⟩ = some (.int .i64 p) ∧ w2.cell? ⟨w.heap.size + 1, 1, none⟩ = some (.int .i64 j)) := hid ⟨HT0.out.rc.1, (slot_cells BFA0.out).1, (slot_cells BFA0.out).2, (slot_cells BFB0.out).1, (slot_cells BFB0.out).2⟩
 have HDc : Hid (w2.drew.cell? ⟨rhb, 0, none⟩ = some (.pointer (some ⟨s.srb, 0, none⟩)) ∧ w2.drew.cell? ⟨w.heap.size, 0, none⟩ = some (.int .i64 o) ∧ w2.drew.cell? ⟨w.heap.size, 1, none⟩ = some (.int .i64 i) ∧ w2.drew.cell? ⟨w.heap.size + 1, 0, none⟩ = some (.int .i64 p) ∧ w2.drew.cell? ⟨w.heap.size + 1, 1, none⟩ = some (.int .i64 j)) := hid HAc.out
 have HTd := hid (HT0.out.call (show Below w2.heap.size w2 w2.drew from (Below.refl _ _).drew))
 have HCc := hid (HCA.out _ _ HTd.out)
 go_region_held3 (fun w' => w'.cell? ⟨rhb, 0, none⟩ = some (.pointer (some ⟨s.srb, 0, none⟩)) ∧ w'.cell? ⟨w.heap.size, 0, none⟩ = some (.int .i64 o) ∧ w'.cell? ⟨w.heap.size, 1, none⟩ = some (.int .i64 i) ∧ w'.cell? ⟨w.heap.size + 1, 0, none⟩ = some (.int .i64 p) ∧ w'.cell? ⟨w.heap.size + 1, 1, none⟩ = some (.int .i64 j))
  (first | (with_reducible exact HAc.out) | (with_reducible exact HDc.out) | (with_reducible exact HFc.out) | (with_reducible exact HF1.out))
  (first
   | (go_at_call 81; (with_reducible refine HCc.out.mono ?_); rintro e c1 ⟨rfl, hb1⟩; have HHc := hid (HTd.out.call hb1); have HKc := hid (show Below w2.heap.size w2 c1 from (show Below w2.heap.size w2 w2.drew from (Below.refl _ _).drew).trans hb1); have bfA := (HKc.out.block _ (ags BFA0.out).1).trans BFA0.out; have BFAc := hid bfA; have bfB := (HKc.out.block _ (ags BFB0.out).1).trans BFB0.out; have BFBc := hid bfB; have HFc : Hid (c1.cell? ⟨rhb, 0, none⟩ = some (.pointer (some ⟨s.srb, 0, none⟩)) ∧ c1.cell? ⟨w.heap.size, 0, none⟩ = some (.int .i64 o) ∧ c1.cell? ⟨w.heap.size, 1, none⟩ = some (.int .i64 i) ∧ c1.cell? ⟨w.heap.size + 1, 0, none⟩ = some (.int .i64 p) ∧ c1.cell? ⟨w.heap.size + 1, 1, none⟩ = some (.int .i64 j)) := hid ⟨HHc.out.rc.1, (slot_cells bfA).1, (slot_cells bfA).2, (slot_cells bfB).1, (slot_cells bfB).2⟩; have HCs := hid (HS2.out _ _ HHc.out); clear hb1 bfA bfB)
   | (go_at_call 82; (with_reducible refine HCs.out.mono ?_); rintro e a1 ⟨rfl, hh, hk⟩; have HH1 := hid hh; have bfA := (hk _ (.inr HNA.out)).trans BFAc.out; have BFA1 := hid bfA; have bfB := (hk _ (.inr HNB.out)).trans BFBc.out; have BFB1 := hid bfB; have HK1 : Hid (∀ k, (S k ∨ New w w2 k) → a1.heap[k]? = w2.heap[k]?) := hid (fun k q => (hk k q).trans (HKc.out.block k (HT0.out.lt q))); have HF1 : Hid (a1.cell? ⟨rhb, 0, none⟩ = some (.pointer (some ⟨s.srb, 0, none⟩)) ∧ a1.cell? ⟨w.heap.size, 0, none⟩ = some (.int .i64 o) ∧ a1.cell? ⟨w.heap.size, 1, none⟩ = some (.int .i64 i) ∧ a1.cell? ⟨w.heap.size + 1, 0, none⟩ = some (.int .i64 p) ∧ a1.cell? ⟨w.heap.size + 1, 1, none⟩ = some (.int .i64 j)) := hid ⟨hh.rc.1, (slot_cells bfA).1, (slot_cells bfA).2, (slot_cells bfB).1, (slot_cells bfB).2⟩; clear hh hk bfA bfB))
 have HA2 : Hid (a1.cell? ⟨rhb, 0, none⟩ = some (.pointer (some ⟨s.srb, 0, none⟩)) ∧ a1.cell? ⟨w.heap.size, 0, none⟩ = some (.int .i64 o) ∧ a1.cell? ⟨w.heap.size, 1, none⟩ = some (.int .i64 i)) := hid ⟨HH1.out.rc.1, (slot_cells BFA1.out).1, (slot_cells BFA1.out).2⟩
 have HD2 : Hid (a1.drew.cell? ⟨rhb, 0, none⟩ = some (.pointer (some ⟨s.srb, 0, none⟩)) ∧ a1.drew.cell? ⟨w.heap.size, 0, none⟩ = some (.int .i64 o) ∧ a1.drew.cell? ⟨w.heap.size, 1, none⟩ = some (.int .i64 i)) := hid HA2.out
 have HE2d := hid (HH1.out.call (show Below a1.heap.size a1 a1.drew from (Below.refl _ _).drew))
 have HC2 := hid (HS3.out _ _ HE2d.out)
 go_upto_region 5 with fail
 go_region_held3 (fun w' => w'.cell? ⟨rhb, 0, none⟩ = some (.pointer (some ⟨s.srb, 0, none⟩)) ∧ w'.cell? ⟨w.heap.size, 0, none⟩ = some (.int .i64 o) ∧ w'.cell? ⟨w.heap.size, 1, none⟩ = some (.int .i64 i))
  (first | (with_reducible exact HA2.out) | (with_reducible exact HD2.out) | (with_reducible exact HF2.out))
  (first | (go_at_call 82; (with_reducible refine HC2.out.mono ?_); rintro e a2 ⟨rfl, hh, hk⟩; have HH2 := hid hh; have bfA := (hk _ (.inr HNA.out)).trans BFA1.out; have BFA2 := hid bfA; have bfB := (hk _ (.inr HNB.out)).trans BFB1.out; have BFB2 := hid bfB; have HK2 := hid hk; have HF2 : Hid (a2.cell? ⟨rhb, 0, none⟩ = some (.pointer (some ⟨s.srb, 0, none⟩)) ∧ a2.cell? ⟨w.heap.size, 0, none⟩ = some (.int .i64 o) ∧ a2.cell? ⟨w.heap.size, 1, none⟩ = some (.int .i64 i)) := hid ⟨hh.rc.1, (slot_cells bfA).1, (slot_cells bfA).2⟩; clear hh hk bfA bfB))
 have HA3 : Hid (a2.cell? ⟨rhb, 1, none⟩ = some (.pointer (some ⟨s.trb, 0, none⟩)) ∧ a2.cell? ⟨w.heap.size, 0, none⟩ = some (.int .i64 o) ∧ a2.cell? ⟨w.heap.size, 1, none⟩ = some (.int .i64 i) ∧ a2.cell? ⟨w.heap.size + 1, 0, none⟩ = some (.int .i64 p) ∧ a2.cell? ⟨w.heap.size + 1, 1, none⟩ = some (.int .i64 j)) := hid ⟨HH2.out.rc.2.1, (slot_cells BFA2.out).1, (slot_cells BFA2.out).2, (slot_cells BFB2.out).1, (slot_cells BFB2.out).2⟩
 have HD3 : Hid (a2.drew.cell? ⟨rhb, 1, none⟩ = some (.pointer (some ⟨s.trb, 0, none⟩)) ∧ a2.drew.cell? ⟨w.heap.size, 0, none⟩ = some (.int .i64 o) ∧ a2.drew.cell? ⟨w.heap.size, 1, none⟩ = some (.int .i64 i) ∧ a2.drew.cell? ⟨w.heap.size + 1, 0, none⟩ = some (.int .i64 p) ∧ a2.drew.cell? ⟨w.heap.size + 1, 1, none⟩ = some (.int .i64 j)) := hid HA3.out
 have HE3d := hid (HH2.out.call (show Below a2.heap.size a2 a2.drew from (Below.refl _ _).drew))
 have HC3 := hid (HMV.out _ _ HE3d.out)
 go_upto_region 6 with fail
 go_region_held3 (fun w' => w'.cell? ⟨rhb, 1, none⟩ = some (.pointer (some ⟨s.trb, 0, none⟩)) ∧ w'.cell? ⟨w.heap.size, 0, none⟩ = some (.int .i64 o) ∧ w'.cell? ⟨w.heap.size, 1, none⟩ = some (.int .i64 i) ∧ w'.cell? ⟨w.heap.size + 1, 0, none⟩ = some (.int .i64 p) ∧ w'.cell? ⟨w.heap.size + 1, 1, none⟩ = some (.int .i64 j))
  (first | (with_reducible exact HA3.out) | (with_reducible exact HD3.out) | (with_reducible exact HF3.out))
  (first | (go_at_call 90; (with_reducible refine HC3.out.mono ?_); rintro e a3 ⟨rfl, hh, hk⟩; have HH3 := hid hh; have bfA := (hk _ (.inr HNA.out)).trans BFA2.out; have BFA3 := hid bfA; have bfB := (hk _ (.inr HNB.out)).trans BFB2.out; have BFB3 := hid bfB; have HK3 := hid hk; have HF3 : Hid (a3.cell? ⟨rhb, 1, none⟩ = some (.pointer (some ⟨s.trb, 0, none⟩)) ∧ a3.cell? ⟨w.heap.size, 0, none⟩ = some (.int .i64 o) ∧ a3.cell? ⟨w.heap.size, 1, none⟩ = some (.int .i64 i) ∧ a3.cell? ⟨w.heap.size + 1, 0, none⟩ = some (.int .i64 p) ∧ a3.cell? ⟨w.heap.size + 1, 1, none⟩ = some (.int .i64 j)) := hid ⟨hh.rc.2.1, (slot_cells bfA).1, (slot_cells bfA).2, (slot_cells bfB).1, (slot_cells bfB).2⟩; clear hh hk bfA bfB))
 all_goals
  go_wp2
  go_ret
  exact ⟨rfl, HH3.out.weak (fun k q => .inl q), fun k q => (HK3.out k (.inl q)).trans ((HK2.out k (.inl q)).trans ((HK1.out k (.inl q)).trans (HBW.out.block k (HH.out.lt q))))⟩
end HdS
end
end Go.Proofs.YtchjfeafkmpmbaaGreatDoor
