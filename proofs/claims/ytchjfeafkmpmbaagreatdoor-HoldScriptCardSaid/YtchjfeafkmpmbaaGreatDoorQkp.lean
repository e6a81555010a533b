import Derived.Test.YtchjfeafkmpmbaaGreatDoorQko
namespace Go.Proofs.YtchjfeafkmpmbaaGreatDoor
set_option linter.unusedVariables false
set_option linter.unusedSimpArgs false
set_option maxRecDepth 100000
set_option maxHeartbeats 8000000
open Lib (hid)
section
open Go.ChangeShapes Go.WideShapes Go.ChangeAt Go.RowKit Go.Shelf
namespace HdS
open TabS (Cp Sn zC mayC sizS getR getN Two Pr FootP foot_ltP foot_ltR SameS AddRel addSR setN setM rowsS hasS dropSR dropSL heldA hdsC)
variable {W w w' : World} {s : Sh} {hb rhb n n' : Nat} {L M L' M' : List Sn} {l l2 l' l2' : List Nod} {S : Nat → Prop}
def rdrN (M : List Sn) (o i p j : Int) (r : Cp × Int) : Int := if pairN M o i p j ≠ 0 then pairN M o i p j else if r.2 ≠ 0 then r.2 else rchN M o i p j r.1
theorem rcopy (h : Hd W s hb rhb n L M l l2 S w) (hA : Asc (rowsS M)) (hl : M.length < 1000000) (o i p j : Int) (m : Int) (hlen : l2.length < 1000) (hdd : ∀ x ∈ l2, x.d < 1000)  :
  Calls Tryz.prog 39 #[.pointer (some ⟨rhb, 0, none⟩), slV o i, slV p j, .int .i64 m] w fun e w' => e = .returned (.int .i64 (rdrN M o i p j (cpy (gt M o i) m))) ∧ Hd W s hb rhb n L (derL M o i p j (cpy (gt M o i) m)) l (derT M l2 o i p j (cpy (gt M o i) m)) S w' ∧ SameK S w w' := by
 unfold rdrN derL derT
 obtain ⟨hb1, hs1, ht1⟩ := duo_boxes w o i p j
 obtain ⟨w1, hw1⟩ : ∃ y, y = (w.alloc (slO o i)).alloc (slO p j) := ⟨_, rfl⟩
 rw [← hw1] at hb1 hs1 ht1
 have HB1 := hid hb1
 have HV1 := hid (Below.refl w1.heap.size w1)
 have HH := hid h
 have HXA := hid hs1
 have HXB := hid ht1
 have HE : Hid (∀ v, Below w1.heap.size w1 v → Hd W s hb rhb n L M l l2 S v) := hid (fun v hv => (h.call hb1).call hv)
 have HFR : Hid (∀ v, Below w1.heap.size w1 v → Calls Tryz.prog 87 #[.pointer (some ⟨rhb, 0, none⟩), slV o i, slV p j] v fun e w' => e = .returned (.int .i64 (pairN M o i p j)) ∧ Below v.heap.size v w') := hid (fun v hv => rfrom (HE.out v hv) hA hl o i p j)
 by_cases hon : pairN M o i p j = 0
 ·rw [if_neg (fun e => e hon)]
  rw [hon] at HFR
  have HCa : Hid (∀ v, Below w1.heap.size w1 v → Calls Tryz.prog 81 #[.pointer (some ⟨rhb, 0, none⟩), slV o i] v fun e w' => e = .returned (gt M o i).V ∧ Below v.heap.size v w') := hid (fun v hv => rcap (HE.out v hv) hA hl o i)
  have HCD : Hid (∀ v, Calls Tryz.prog 88 #[(gt M o i).V, .int .i64 m] v fun e w' => e = .returned (.tuple #[(cpy (gt M o i) m).1.V, .int .i64 (cpy (gt M o i) m).2]) ∧ Below v.heap.size v w') := hid (fun v => rcopy14 v (gt M o i) m)
  generalize (cpy (gt M o i) m) = r at *
  have HCH := hid (fun (v : World) (hv : Hd W s hb rhb n L M l l2 S v) => rchild hv hA hl o i p j r.1 hlen hdd)
  have HP := hid hon
  have HW := hid hw1
  clear h hw1 hb1 hs1 ht1 hA hl hon hlen hdd
  obtain ⟨⟨ca, cb, cx, cd, ce, cf, cg, ch⟩, k⟩ := r
  obtain ⟨N, hN⟩ : ∃ y, y = rchN M o i p j ⟨ca, cb, cx, cd, ce, cf, cg, ch⟩ := ⟨_, rfl⟩
  obtain ⟨L2, hL2⟩ : ∃ y, y = chL M o i p j ⟨ca, cb, cx, cd, ce, cf, cg, ch⟩ := ⟨_, rfl⟩
  obtain ⟨l3, hl3⟩ : ∃ y, y = chT M l2 o i p j ⟨ca, cb, cx, cd, ce, cf, cg, ch⟩ := ⟨_, rfl⟩
  rw [← hN, ← hL2, ← hl3] at HCH
  simp only []
  rw [← hN, ← hL2, ← hl3]
  clear hN hL2 hl3
  obtain ⟨RN, hRN⟩ : ∃ y : Int, y = (if k ≠ 0 then k else N) := ⟨_, rfl⟩
  obtain ⟨RL, hRL⟩ : ∃ y : List Sn, y = (if pairN M o i p j = 0 ∧ k = 0 then L2 else M) := ⟨_, rfl⟩
  obtain ⟨RT, hRT⟩ : ∃ y : List Nod, y = (if pairN M o i p j = 0 ∧ k = 0 then l3 else l2) := ⟨_, rfl⟩
  rw [← hRN, ← hRL, ← hRT]
  have HRN := hid hRN
  have HRL := hid hRL
  have HRT := hid hRT
  clear hRN hRL hRT
  generalize gt M o i = t at *
  obtain ⟨ta, tb, tx, td, te, tf, tg, th⟩ := t
  go_enter Tryz.func39, Tryz.ntmps39
  go_upto_region 1 with fail
  rw [show ((w.alloc (slO o i)).alloc (slO p j)) = w1 from HW.out.symm]
  obtain ⟨k0, k1⟩ := slot_cells (((HV1.out).block _ (ags HXA.out).1).trans HXA.out)
  obtain ⟨r0, r1⟩ := slot_cells (((HV1.out).block _ (ags HXB.out).1).trans HXB.out)
  go_upto_region 4 with (go_at_call 87; (with_reducible refine (HFR.out _ HV1.out).mono ?_); rintro e w2 ⟨rfl, hb2⟩; have HV2 := hid (HV1.out.trans (hb2.mono HV1.out.size)); clear hb2)
  clear k0 k1 r0 r1
  obtain ⟨k0, k1⟩ := slot_cells (((HV2.out).block _ (ags HXA.out).1).trans HXA.out)
  go_upto_region 5 with (first | (go_at_call 81; (with_reducible refine (HCa.out _ HV2.out).mono ?_); rintro e w3 ⟨rfl, hb3⟩; have HV3 := hid (HV2.out.trans (hb3.mono HV2.out.size)); clear hb3) | (go_at_call 88; (with_reducible refine (HCD.out _).mono ?_); rintro e w4 ⟨rfl, hb4⟩; have HV4 := hid (HV3.out.trans (hb4.mono HV3.out.size)); clear hb4))
  clear k0 k1
  obtain ⟨w5, hw5⟩ : ∃ y, y = w4.alloc (.cells #[.int .i64 ca, .int .i64 cb, .int .i64 cx, .int .u64 cd, .int .i64 ce, .int .i64 cf, .int .i64 cg, .int .i64 ch] 33) := ⟨_, rfl⟩
  have HV5 : Hid (Below w1.heap.size w1 w5) := hid (hw5 ▸ bal HV4.out _)
  have hx5 : w5.heap[w4.heap.size]? = some (.cells (⟨ca, cb, cx, cd, ce, cf, cg, ch⟩ : Cp).L.toArray 33 (0, 0)) := by rw [hw5]; exact heap_alloc_new w4 _
  have HB5 := hid (HB1.out.trans (HV5.out.mono HB1.out.size))
  have HC5 := hid (HCH.out w5 (HH.out.call HB5.out))
  rw [← hw5]
  generalize w4.heap.size = yB at *
  obtain ⟨k0, k1⟩ := slot_cells (((HV5.out).block _ (ags HXA.out).1).trans HXA.out)
  obtain ⟨r0, r1⟩ := slot_cells (((HV5.out).block _ (ags HXB.out).1).trans HXB.out)
  obtain ⟨x0, x1, x2, x3, x4, x5, x6, x7⟩ := cap_cells hx5
  simp only [] at x0 x1 x2 x3 x4 x5 x6 x7
  clear hw5 hx5 HCH HCa HCD HFR
  by_cases hk : k = 0
  ·subst hk
   obtain rfl : N = RN := Eq.symm (by rw [HRN.out, if_neg (fun e => e rfl)])
   obtain rfl : L2 = RL := Eq.symm (by rw [HRL.out, if_pos ⟨HP.out, rfl⟩])
   obtain rfl : l3 = RT := Eq.symm (by rw [HRT.out, if_pos ⟨HP.out, rfl⟩])
   go_wp2_with (go_at_call 36; (with_reducible refine HC5.out.mono ?_); rintro e w6 ⟨rfl, h6, hk6⟩; have H6 := hid h6; have HK6 := hid hk6; clear h6 hk6)
   go_ret
   exact ⟨rfl, H6.out, fun k q => (HK6.out k q).trans (HB5.out.block k (HH.out.lt q))⟩
  ·have HK := hid hk
   have hRN := HRN.out
   have hRL := HRL.out
   have hRT := HRT.out
   rw [if_pos hk] at hRN
   rw [if_neg (fun e => HK.out e.2)] at hRL hRT
   have hk' : (k == 0) = false := beq_eq_false_iff_ne.2 hk
   subst hRN hRL hRT
   go_wp2
   go_ret
   exact ⟨rfl, HH.out.call HB5.out, HH.out.same HB5.out⟩
 ·rw [if_pos hon, if_neg (fun e => hon e.1), if_neg (fun e => hon e.1)]
  have hpp : (pairN M o i p j == 0) = false := beq_eq_false_iff_ne.2 hon
  generalize pairN M o i p j = N at *
  have HW := hid hw1
  clear h hw1 hb1 hs1 ht1 hA hl hlen hdd
  go_enter Tryz.func39, Tryz.ntmps39
  go_upto_region 1 with fail
  rw [show ((w.alloc (slO o i)).alloc (slO p j)) = w1 from HW.out.symm]
  obtain ⟨k0, k1⟩ := slot_cells (((HV1.out).block _ (ags HXA.out).1).trans HXA.out)
  obtain ⟨r0, r1⟩ := slot_cells (((HV1.out).block _ (ags HXB.out).1).trans HXB.out)
  go_wp2_with (go_at_call 87; (with_reducible refine (HFR.out _ HV1.out).mono ?_); rintro e w2 ⟨rfl, hb2⟩; have HV2 := hid (HV1.out.trans (hb2.mono HV1.out.size)); clear hb2)
  go_ret
  have HB2 := HB1.out.trans (HV2.out.mono HB1.out.size)
  exact ⟨rfl, HH.out.call HB2, HH.out.same HB2⟩
theorem rmint (h : Hd W s hb rhb n L M l l2 S w) (hA : Asc (rowsS M)) (hl : M.length < 1000000) (o i p j : Int) (m : Int) (d : Nat) (hlen : l2.length < 1000) (hdd : ∀ x ∈ l2, x.d < 1000) (hd : d < 2 ^ 64) :
  Calls Tryz.prog 40 #[.pointer (some ⟨rhb, 0, none⟩), slV o i, slV p j, .int .i64 m, .int .u64 d] w fun e w' => e = .returned (.int .i64 (rdrN M o i p j (mnt (gt M o i) m d))) ∧ Hd W s hb rhb n L (derL M o i p j (mnt (gt M o i) m d)) l (derT M l2 o i p j (mnt (gt M o i) m d)) S w' ∧ SameK S w w' := by
 unfold rdrN derL derT
 obtain ⟨hb1, hs1, ht1⟩ := duo_boxes w o i p j
 obtain ⟨w1, hw1⟩ : ∃ y, y = (w.alloc (slO o i)).alloc (slO p j) := ⟨_, rfl⟩
 rw [← hw1] at hb1 hs1 ht1
 have HB1 := hid hb1
 have HV1 := hid (Below.refl w1.heap.size w1)
 have HH := hid h
 have HXA := hid hs1
 have HXB := hid ht1
 have HE : Hid (∀ v, Below w1.heap.size w1 v → Hd W s hb rhb n L M l l2 S v) := hid (fun v hv => (h.call hb1).call hv)
 have HFR : Hid (∀ v, Below w1.heap.size w1 v → Calls Tryz.prog 87 #[.pointer (some ⟨rhb, 0, none⟩), slV o i, slV p j] v fun e w' => e = .returned (.int .i64 (pairN M o i p j)) ∧ Below v.heap.size v w') := hid (fun v hv => rfrom (HE.out v hv) hA hl o i p j)
 by_cases hon : pairN M o i p j = 0
 ·rw [if_neg (fun e => e hon)]
  rw [hon] at HFR
  have HCa : Hid (∀ v, Below w1.heap.size w1 v → Calls Tryz.prog 81 #[.pointer (some ⟨rhb, 0, none⟩), slV o i] v fun e w' => e = .returned (gt M o i).V ∧ Below v.heap.size v w') := hid (fun v hv => rcap (HE.out v hv) hA hl o i)
  have HCD : Hid (∀ v, Calls Tryz.prog 89 #[(gt M o i).V, .int .i64 m, .int .u64 d] v fun e w' => e = .returned (.tuple #[(mnt (gt M o i) m d).1.V, .int .i64 (mnt (gt M o i) m d).2]) ∧ Below v.heap.size v w') := hid (fun v => rmint14 v (gt M o i) m d hd)
  generalize (mnt (gt M o i) m d) = r at *
  have HCH := hid (fun (v : World) (hv : Hd W s hb rhb n L M l l2 S v) => rchild hv hA hl o i p j r.1 hlen hdd)
  have HP := hid hon
  have HW := hid hw1
  clear h hw1 hb1 hs1 ht1 hA hl hon hlen hdd hd
  obtain ⟨⟨ca, cb, cx, cd, ce, cf, cg, ch⟩, k⟩ := r
  obtain ⟨N, hN⟩ : ∃ y, y = rchN M o i p j ⟨ca, cb, cx, cd, ce, cf, cg, ch⟩ := ⟨_, rfl⟩
  obtain ⟨L2, hL2⟩ : ∃ y, y = chL M o i p j ⟨ca, cb, cx, cd, ce, cf, cg, ch⟩ := ⟨_, rfl⟩
  obtain ⟨l3, hl3⟩ : ∃ y, y = chT M l2 o i p j ⟨ca, cb, cx, cd, ce, cf, cg, ch⟩ := ⟨_, rfl⟩
  rw [← hN, ← hL2, ← hl3] at HCH
  simp only []
  rw [← hN, ← hL2, ← hl3]
  clear hN hL2 hl3
  obtain ⟨RN, hRN⟩ : ∃ y : Int, y = (if k ≠ 0 then k else N) := ⟨_, rfl⟩
  obtain ⟨RL, hRL⟩ : ∃ y : List Sn, y = (if pairN M o i p j = 0 ∧ k = 0 then L2 else M) := ⟨_, rfl⟩
  obtain ⟨RT, hRT⟩ : ∃ y : List Nod, y = (if pairN M o i p j = 0 ∧ k = 0 then l3 else l2) := ⟨_, rfl⟩
  rw [← hRN, ← hRL, ← hRT]
  have HRN := hid hRN
  have HRL := hid hRL
  have HRT := hid hRT
  clear hRN hRL hRT
  generalize gt M o i = t at *
  obtain ⟨ta, tb, tx, td, te, tf, tg, th⟩ := t
  go_enter Tryz.func40, Tryz.ntmps40
  go_upto_region 1 with fail
  rw [show ((w.alloc (slO o i)).alloc (slO p j)) = w1 from HW.out.symm]
  obtain ⟨k0, k1⟩ := slot_cells (((HV1.out).block _ (ags HXA.out).1).trans HXA.out)
  obtain ⟨r0, r1⟩ := slot_cells (((HV1.out).block _ (ags HXB.out).1).trans HXB.out)
  go_upto_region 4 with (go_at_call 87; (with_reducible refine (HFR.out _ HV1.out).mono ?_); rintro e w2 ⟨rfl, hb2⟩; have HV2 := hid (HV1.out.trans (hb2.mono HV1.out.size)); clear hb2)
  clear k0 k1 r0 r1
  obtain ⟨k0, k1⟩ := slot_cells (((HV2.out).block _ (ags HXA.out).1).trans HXA.out)
  go_upto_region 5 with (first | (go_at_call 81; (with_reducible refine (HCa.out _ HV2.out).mono ?_); rintro e w3 ⟨rfl, hb3⟩; have HV3 := hid (HV2.out.trans (hb3.mono HV2.out.size)); clear hb3) | (go_at_call 89; (with_reducible refine (HCD.out _).mono ?_); rintro e w4 ⟨rfl, hb4⟩; have HV4 := hid (HV3.out.trans (hb4.mono HV3.out.size)); clear hb4))
  clear k0 k1
  obtain ⟨w5, hw5⟩ : ∃ y, y = w4.alloc (.cells #[.int .i64 ca, .int .i64 cb, .int .i64 cx, .int .u64 cd, .int .i64 ce, .int .i64 cf, .int .i64 cg, .int .i64 ch] 33) := ⟨_, rfl⟩
  have HV5 : Hid (Below w1.heap.size w1 w5) := hid (hw5 ▸ bal HV4.out _)
  have hx5 : w5.heap[w4.heap.size]? = some (.cells (⟨ca, cb, cx, cd, ce, cf, cg, ch⟩ : Cp).L.toArray 33 (0, 0)) := by rw [hw5]; exact heap_alloc_new w4 _
  have HB5 := hid (HB1.out.trans (HV5.out.mono HB1.out.size))
  have HC5 := hid (HCH.out w5 (HH.out.call HB5.out))
  rw [← hw5]
  generalize w4.heap.size = yB at *
  obtain ⟨k0, k1⟩ := slot_cells (((HV5.out).block _ (ags HXA.out).1).trans HXA.out)
  obtain ⟨r0, r1⟩ := slot_cells (((HV5.out).block _ (ags HXB.out).1).trans HXB.out)
  obtain ⟨x0, x1, x2, x3, x4, x5, x6, x7⟩ := cap_cells hx5
  simp only [] at x0 x1 x2 x3 x4 x5 x6 x7
  clear hw5 hx5 HCH HCa HCD HFR
  by_cases hk : k = 0
  ·subst hk
   obtain rfl : N = RN := Eq.symm (by rw [HRN.out, if_neg (fun e => e rfl)])
   obtain rfl : L2 = RL := Eq.symm (by rw [HRL.out, if_pos ⟨HP.out, rfl⟩])
   obtain rfl : l3 = RT := Eq.symm (by rw [HRT.out, if_pos ⟨HP.out, rfl⟩])
   go_wp2_with (go_at_call 36; (with_reducible refine HC5.out.mono ?_); rintro e w6 ⟨rfl, h6, hk6⟩; have H6 := hid h6; have HK6 := hid hk6; clear h6 hk6)
   go_ret
   exact ⟨rfl, H6.out, fun k q => (HK6.out k q).trans (HB5.out.block k (HH.out.lt q))⟩
  ·have HK := hid hk
   have hRN := HRN.out
   have hRL := HRL.out
   have hRT := HRT.out
   rw [if_pos hk] at hRN
   rw [if_neg (fun e => HK.out e.2)] at hRL hRT
   have hk' : (k == 0) = false := beq_eq_false_iff_ne.2 hk
   subst hRN hRL hRT
   go_wp2
   go_ret
   exact ⟨rfl, HH.out.call HB5.out, HH.out.same HB5.out⟩
 ·rw [if_pos hon, if_neg (fun e => hon e.1), if_neg (fun e => hon e.1)]
  have hpp : (pairN M o i p j == 0) = false := beq_eq_false_iff_ne.2 hon
  generalize pairN M o i p j = N at *
  have HW := hid hw1
  clear h hw1 hb1 hs1 ht1 hA hl hlen hdd
  go_enter Tryz.func40, Tryz.ntmps40
  go_upto_region 1 with fail
  rw [show ((w.alloc (slO o i)).alloc (slO p j)) = w1 from HW.out.symm]
  obtain ⟨k0, k1⟩ := slot_cells (((HV1.out).block _ (ags HXA.out).1).trans HXA.out)
  obtain ⟨r0, r1⟩ := slot_cells (((HV1.out).block _ (ags HXB.out).1).trans HXB.out)
  go_wp2_with (go_at_call 87; (with_reducible refine (HFR.out _ HV1.out).mono ?_); rintro e w2 ⟨rfl, hb2⟩; have HV2 := hid (HV1.out.trans (hb2.mono HV1.out.size)); clear hb2)
  go_ret
  have HB2 := HB1.out.trans (HV2.out.mono HB1.out.size)
  exact ⟨rfl, HH.out.call HB2, HH.out.same HB2⟩
theorem rmove_no (h : Hd W s hb rhb n L M l l2 S w) (hA : Asc (rowsS M)) (hl : M.length < 1000000) (o i p j : Int) (hno : pairN M o i p j ≠ 0) :
  Calls Tryz.prog 41 #[.pointer (some ⟨rhb, 0, none⟩), slV o i, slV p j] w fun e w' => e = .returned (.int .i64 (pairN M o i p j)) ∧ Below w.heap.size w w' := by
 obtain ⟨hb1, hs1, ht1⟩ := duo_boxes w o i p j
 obtain ⟨w1, hw1⟩ : ∃ y, y = (w.alloc (slO o i)).alloc (slO p j) := ⟨_, rfl⟩
 rw [← hw1] at hb1 hs1 ht1
 have HB1 := hid hb1
 have HV1 := hid (Below.refl w1.heap.size w1)
 have HH := hid h
 have HXA := hid hs1
 have HXB := hid ht1
 have HE : Hid (∀ v, Below w1.heap.size w1 v → Hd W s hb rhb n L M l l2 S v) := hid (fun v hv => (h.call hb1).call hv)
 have HFR : Hid (∀ v, Below w1.heap.size w1 v → Calls Tryz.prog 87 #[.pointer (some ⟨rhb, 0, none⟩), slV o i, slV p j] v fun e w' => e = .returned (.int .i64 (pairN M o i p j)) ∧ Below v.heap.size v w') := hid (fun v hv => rfrom (HE.out v hv) hA hl o i p j)
 have hpp : (pairN M o i p j == 0) = false := beq_eq_false_iff_ne.2 hno
 generalize pairN M o i p j = N at *
 have HW := hid hw1
 clear h hw1 hb1 hs1 ht1 hA hl
 go_enter Tryz.func41, Tryz.ntmps41
 go_upto_region 1 with fail
 rw [show ((w.alloc (slO o i)).alloc (slO p j)) = w1 from HW.out.symm]
 obtain ⟨k0, k1⟩ := slot_cells (((HV1.out).block _ (ags HXA.out).1).trans HXA.out)
 obtain ⟨r0, r1⟩ := slot_cells (((HV1.out).block _ (ags HXB.out).1).trans HXB.out)
 go_wp2_with (go_at_call 87; (with_reducible refine (HFR.out _ HV1.out).mono ?_); rintro e w2 ⟨rfl, hb2⟩; have HV2 := hid (HV1.out.trans (hb2.mono HV1.out.size)); clear hb2)
 go_ret
 exact ⟨rfl, HB1.out.trans (HV2.out.mono HB1.out.size)⟩
theorem rmove_yes (h : Hd W s hb rhb n L M l l2 S w) (hA : Asc (rowsS M)) (hl : M.length < 1000000) (o i p j : Int) (hO : Once l2) (hon : pairN M o i p j = 0) :
  Calls Tryz.prog 41 #[.pointer (some ⟨rhb, 0, none⟩), slV o i, slV p j] w fun e w' => e = .returned (.int .i64 0) ∧ Hd W s hb rhb n L (moveM M o i p j) l (moveA l2 o i p j).1 S w' ∧ SameK S w w' := by
 obtain ⟨hb1, hs1, ht1⟩ := duo_boxes w o i p j
 obtain ⟨w1, hw1⟩ : ∃ y, y = (w.alloc (slO o i)).alloc (slO p j) := ⟨_, rfl⟩
 rw [← hw1] at hb1 hs1 ht1
 have HB1 := hid hb1
 have HV1 := hid (Below.refl w1.heap.size w1)
 have HH := hid h
 have HXA := hid hs1
 have HXB := hid ht1
 have HE : Hid (∀ v, Below w1.heap.size w1 v → Hd W s hb rhb n L M l l2 S v) := hid (fun v hv => (h.call hb1).call hv)
 have HFR : Hid (∀ v, Below w1.heap.size w1 v → Calls Tryz.prog 87 #[.pointer (some ⟨rhb, 0, none⟩), slV o i, slV p j] v fun e w' => e = .returned (.int .i64 (pairN M o i p j)) ∧ Below v.heap.size v w') := hid (fun v hv => rfrom (HE.out v hv) hA hl o i p j)
 rw [hon] at HFR
 obtain ⟨M2, hM2⟩ : ∃ y, y = setM M p j (gt M o i) := ⟨_, rfl⟩
 obtain ⟨M3, hM3⟩ : ∃ y, y = setM M2 o i zC := ⟨_, rfl⟩
 obtain ⟨l3, hl3⟩ : ∃ y, y = (moveA l2 o i p j).1 := ⟨_, rfl⟩
 obtain ⟨mn, hmn⟩ : ∃ y, y = (moveA l2 o i p j).2 := ⟨_, rfl⟩
 obtain ⟨n2, hn2⟩ : ∃ y, y = setN M p j (gt M o i) := ⟨_, rfl⟩
 obtain ⟨n3, hn3⟩ : ∃ y, y = setN M2 o i zC := ⟨_, rfl⟩
 have hl2 : M2.length < 1000000 := by rw [hM2, TabS.set_len]; exact hl
 have hA2 : Asc (rowsS M2) := by rw [hM2]; exact asc_set hA _ _ _
 unfold moveM
 rw [← hM2, ← hM3, ← hl3]
 have HS2 : Hid (∀ v T, Hd W s hb rhb n L M l l2 T v → Calls Tryz.prog 82 #[.pointer (some ⟨s.srb, 0, none⟩), slV p j, (gt M o i).V] v fun e w' => e = .returned (.int .i64 n2) ∧ Hd W s hb rhb n L M2 l l2 T w' ∧ SameK T v w') := hid (fun v T hv => by rw [hM2, hn2]; exact hv.act (fun K hK => hK.rset hA hl p j _))
 have HS3 : Hid (∀ v T, Hd W s hb rhb n L M2 l l2 T v → Calls Tryz.prog 82 #[.pointer (some ⟨s.srb, 0, none⟩), slV o i, .agg #[.int .i64 0, .int .i64 0, .int .i64 0, .int .u64 0, .int .i64 0, .int .i64 0, .int .i64 0, .int .i64 0]] v fun e w' => e = .returned (.int .i64 n3) ∧ Hd W s hb rhb n L M3 l l2 T w' ∧ SameK T v w') := hid (fun v T hv => by rw [hM3, hn3]; exact hv.act (fun K hK => hK.rset hA2 hl2 o i zC))
 have HMV : Hid (∀ v T, Hd W s hb rhb n L M3 l l2 T v → Calls Tryz.prog 90 #[.pointer (some ⟨s.trb, 0, none⟩), slV o i, slV p j] v fun e w' => e = .returned (.int .i64 mn) ∧ Hd W s hb rhb n L M3 l l3 T w' ∧ SameK T v w') := hid (fun v T hv => by rw [hl3, hmn]; exact hv.act (fun K hK => hK.rmove o i p j hO))
 have HCA : Hid (∀ v T, Hd W s hb rhb n L M l l2 T v → Calls Tryz.prog 81 #[.pointer (some ⟨rhb, 0, none⟩), slV o i] v fun e w' => e = .returned (gt M o i).V ∧ Below v.heap.size v w') := hid (fun v T hv => rcap hv hA hl o i)
 generalize gt M o i = t at *
 obtain ⟨ta, tb, tx, td, te, tf, tg, th⟩ := t
 have HW := hid hw1
 clear h hw1 hb1 hs1 ht1 hA hl hon hM2 hM3 hl3 hmn hn2 hn3 hl2 hA2 hO
 go_enter Tryz.func41, Tryz.ntmps41
 go_upto_region 1 with fail
 rw [show ((w.alloc (slO o i)).alloc (slO p j)) = w1 from HW.out.symm]
 obtain ⟨k0, k1⟩ := slot_cells (((HV1.out).block _ (ags HXA.out).1).trans HXA.out)
 obtain ⟨r0, r1⟩ := slot_cells (((HV1.out).block _ (ags HXB.out).1).trans HXB.out)
 go_upto_region 4 with (go_at_call 87; (with_reducible refine (HFR.out _ HV1.out).mono ?_); rintro e w2 ⟨rfl, hb2⟩; have HV2 := hid (HV1.out.trans (hb2.mono HV1.out.size)); clear hb2)
 clear k0 k1 r0 r1
 have BFA0 := hid (((HV2.out).block _ (ags HXA.out).1).trans HXA.out)
 have BFB0 := hid (((HV2.out).block _ (ags HXB.out).1).trans HXB.out)
 have HBW := hid (HB1.out.trans (HV2.out.mono HB1.out.size))
 have HT0 := hid (HH.out.fresh HBW.out)
 have HNA : Hid (New w w2 (w.heap.size)) := hid ⟨by omega, (ags BFA0.out).1⟩
 have HNB : Hid (New w w2 (w.heap.size + 1)) := hid ⟨by omega, (ags BFB0.out).1⟩
 have HAc : Hid (w2.cell? ⟨rhb, 0, none⟩ = some (.pointer (some ⟨s.srb, 0, none⟩)) ∧ w2.cell? ⟨w.heap.size, 0, none⟩ = some (.int .i64 o) ∧ w2.cell? ⟨w.heap.size, 1, none⟩ = some (.int .i64 i) ∧ w2.cell? ⟨w.heap.size + 1, 0, none⟩ = some (.int .i64 p) ∧ w2.cell? ⟨w.heap.size + 1, 1, none⟩ = some (.int .i64 j)) := hid ⟨HT0.out.rc.1, (slot_cells BFA0.out).1, (slot_cells BFA0.out).2, (slot_cells BFB0.out).1, (slot_cells BFB0.out).2⟩
 have HDc : Hid (w2.drew.cell? ⟨rhb, 0, none⟩ = some (.pointer (some ⟨s.srb, 0, none⟩)) ∧ w2.drew.cell? ⟨w.heap.size, 0, none⟩ = some (.int .i64 o) ∧ w2.drew.cell? ⟨w.heap.size, 1, none⟩ = some (.int .i64 i) ∧ w2.drew.cell? ⟨w.heap.size + 1, 0, none⟩ = some (.int .i64 p) ∧ w2.drew.cell? ⟨w.heap.size + 1, 1, none⟩ = some (.int .i64 j)) := hid HAc.out
 have HTd := hid (HT0.out.call (show Below w2.heap.size w2 w2.drew from (Below.refl _ _).drew))
 have HCc := hid (HCA.out _ _ HTd.out)
 go_region_held3 (fun w' => w'.cell? ⟨rhb, 0, none⟩ = some (.pointer (some ⟨s.srb, 0, none⟩)) ∧ w'.cell? ⟨w.heap.size, 0, none⟩ = some (.int .i64 o) ∧ w'.cell? ⟨w.heap.size, 1, none⟩ = some (.int .i64 i) ∧ w'.cell? ⟨w.heap.size + 1, 0, none⟩ = some (.int .i64 p) ∧ w'.cell? ⟨w.heap.size + 1, 1, none⟩ = some (.int .i64 j))
  (first | (with_reducible exact HAc.out) | (with_reducible exact HDc.out) | (with_reducible exact HFc.out) | (with_reducible exact HF1.out))
  (first
   | (go_at_call 81; (with_reducible refine HCc.out.mono ?_); rintro e c1 ⟨rfl, hb1⟩; have HHc := hid (HTd.out.call hb1); have HKc := hid (show Below w2.heap.size w2 c1 from (show Below w2.heap.size w2 w2.drew from (Below.refl _ _).drew).trans hb1); have bfA := (HKc.out.block _ (ags BFA0.out).1).trans BFA0.out; have BFAc := hid bfA; have bfB := (HKc.out.block _ (ags BFB0.out).1).trans BFB0.out; have BFBc := hid bfB; have HFc : Hid (c1.cell? ⟨rhb, 0, none⟩ = some (.pointer (some ⟨s.srb, 0, none⟩)) ∧ c1.cell? ⟨w.heap.size, 0, none⟩ = some (.int .i64 o) ∧ c1.cell? ⟨w.heap.size, 1, none⟩ = some (.int .i64 i) ∧ c1.cell? ⟨w.heap.size + 1, 0, none⟩ = some (.int .i64 p) ∧ c1.cell? ⟨w.heap.size + 1, 1, none⟩ = some (.int .i64 j)) := hid ⟨HHc.out.rc.1, (slot_cells bfA).1, (slot_cells bfA).2, (slot_cells bfB).1, (slot_cells bfB).2⟩; have HCs := hid (HS2.out _ _ HHc.out); clear hb1 bfA bfB)
   | (go_at_call 82; (with_reducible refine HCs.out.mono ?_); rintro e a1 ⟨rfl, hh, hk⟩; have HH1 := hid hh; have bfA := (hk _ (.inr HNA.out)).trans BFAc.out; have BFA1 := hid bfA; have bfB := (hk _ (.inr HNB.out)).trans BFBc.out; have BFB1 := hid bfB; have HK1 : Hid (∀ k, (S k ∨ New w w2 k) → a1.heap[k]? = w2.heap[k]?) := hid (fun k q => (hk k q).trans (HKc.out.block k (HT0.out.lt q))); have HF1 : Hid (a1.cell? ⟨rhb, 0, none⟩ = some (.pointer (some ⟨s.srb, 0, none⟩)) ∧ a1.cell? ⟨w.heap.size, 0, none⟩ = some (.int .i64 o) ∧ a1.cell? ⟨w.heap.size, 1, none⟩ = some (.int .i64 i) ∧ a1.cell? ⟨w.heap.size + 1, 0, none⟩ = some (.int .i64 p) ∧ a1.cell? ⟨w.heap.size + 1, 1, none⟩ = some (.int .i64 j)) := hid ⟨hh.rc.1, (slot_cells bfA).1, (slot_cells bfA).2, (slot_cells bfB).1, (slot_cells bfB).2⟩; clear hh hk bfA bfB))
 have HA2 : Hid (a1.cell? ⟨rhb, 0, none⟩ = some (.pointer (some ⟨s.srb, 0, none⟩)) ∧ a1.cell? ⟨w.heap.size, 0, none⟩ = some (.int .i64 o) ∧ a1.cell? ⟨w.heap.size, 1, none⟩ = some (.int .i64 i)) := hid ⟨HH1.out.rc.1, (slot_cells BFA1.out).1, (slot_cells BFA1.out).2⟩
 have HD2 : Hid (a1.drew.cell? ⟨rhb, 0, none⟩ = some (.pointer (some ⟨s.srb, 0, none⟩)) ∧ a1.drew.cell? ⟨w.heap.size, 0, none⟩ = some (.int .i64 o) ∧ a1.drew.cell? ⟨w.heap.size, 1, none⟩ = some (.int .i64 i)) := hid HA2.out
 have HE2d := hid (HH1.out.call (show Below a1.heap.size a1 a1.drew from (Below.refl _ _).drew))
 have HC2 := hid (HS3.out _ _ HE2d.out)
 go_upto_region 5 with fail
 go_region_held3 (fun w' => w'.cell? ⟨rhb, 0, none⟩ = some (.pointer (some ⟨s.srb, 0, none⟩)) ∧ w'.cell? ⟨w.heap.size, 0, none⟩ = some (.int .i64 o) ∧ w'.cell? ⟨w.heap.size, 1, none⟩ = some (.int .i64 i))
  (first | (with_reducible exact HA2.out) | (with_reducible exact HD2.out) | (with_reducible exact HF2.out))
  (first | (go_at_call 82; (with_reducible refine HC2.out.mono ?_); rintro e a2 ⟨rfl, hh, hk⟩; have HH2 := hid hh; have bfA := (hk _ (.inr HNA.out)).trans BFA1.out; have BFA2 := hid bfA; have bfB := (hk _ (.inr HNB.out)).trans BFB1.out; have BFB2 := hid bfB; have HK2 := hid hk; have HF2 : Hid (a2.cell? ⟨rhb, 0, none⟩ = some (.pointer (some ⟨s.srb, 0, none⟩)) ∧ a2.cell? ⟨w.heap.size, 0, none⟩ = some (.int .i64 o) ∧ a2.cell? ⟨w.heap.size, 1, none⟩ = some (.int .i64 i)) := hid ⟨hh.rc.1, (slot_cells bfA).1, (slot_cells bfA).2⟩; clear hh hk bfA bfB))
 have HA3 : Hid (a2.cell? ⟨rhb, 1, none⟩ = some (.pointer (some ⟨s.trb, 0, none⟩)) ∧ a2.cell? ⟨w.heap.size, 0, none⟩ = some (.int .i64 o) ∧ a2.cell? ⟨w.heap.size, 1, none⟩ = some (.int .i64 i) ∧ a2.cell? ⟨w.heap.size + 1, 0, none⟩ = some (.int .i64 p) ∧ a2.cell? ⟨w.heap.size + 1, 1, none⟩ = some (.int .i64 j)) := hid ⟨HH2.out.rc.2.1, (slot_cells BFA2.out).1, (slot_cells BFA2.out).2, (slot_cells BFB2.out).1, (slot_cells BFB2.out).2⟩
 have HD3 : Hid (a2.drew.cell? ⟨rhb, 1, none⟩ = some (.pointer (some ⟨s.trb, 0, none⟩)) ∧ a2.drew.cell? ⟨w.heap.size, 0, none⟩ = some (.int .i64 o) ∧ a2.drew.cell? ⟨w.heap.size, 1, none⟩ = some (.int .i64 i) ∧ a2.drew.cell? ⟨w.heap.size + 1, 0, none⟩ = some (.int .i64 p) ∧ a2.drew.cell? ⟨w.heap.size + 1, 1, none⟩ = some (.int .i64 j)) := hid HA3.out
 have HE3d := hid (HH2.out.call (show Below a2.heap.size a2 a2.drew from (Below.refl _ _).drew))
 have HC3 := hid (HMV.out _ _ HE3d.out)
 go_upto_region 6 with fail
 go_region_held3 (fun w' => w'.cell? ⟨rhb, 1, none⟩ = some (.pointer (some ⟨s.trb, 0, none⟩)) ∧ w'.cell? ⟨w.heap.size, 0, none⟩ = some (.int .i64 o) ∧ w'.cell? ⟨w.heap.size, 1, none⟩ = some (.int .i64 i) ∧ w'.cell? ⟨w.heap.size + 1, 0, none⟩ = some (.int .i64 p) ∧ w'.cell? ⟨w.heap.size + 1, 1, none⟩ = some (.int .i64 j))
  (first | (with_reducible exact HA3.out) | (with_reducible exact HD3.out) | (with_reducible exact HF3.out))
  (first | (go_at_call 90; (with_reducible refine HC3.out.mono ?_); rintro e a3 ⟨rfl, hh, hk⟩; have HH3 := hid hh; have bfA := (hk _ (.inr HNA.out)).trans BFA2.out; have BFA3 := hid bfA; have bfB := (hk _ (.inr HNB.out)).trans BFB2.out; have BFB3 := hid bfB; have HK3 := hid hk; have HF3 : Hid (a3.cell? ⟨rhb, 1, none⟩ = some (.pointer (some ⟨s.trb, 0, none⟩)) ∧ a3.cell? ⟨w.heap.size, 0, none⟩ = some (.int .i64 o) ∧ a3.cell? ⟨w.heap.size, 1, none⟩ = some (.int .i64 i) ∧ a3.cell? ⟨w.heap.size + 1, 0, none⟩ = some (.int .i64 p) ∧ a3.cell? ⟨w.heap.size + 1, 1, none⟩ = some (.int .i64 j)) := hid ⟨hh.rc.2.1, (slot_cells bfA).1, (slot_cells bfA).2, (slot_cells bfB).1, (slot_cells bfB).2⟩; clear hh hk bfA bfB))
 all_goals
  go_wp2
  go_ret
  exact ⟨rfl, HH3.out.weak (fun k q => .inl q), fun k q => (HK3.out k (.inl q)).trans ((HK2.out k (.inl q)).trans ((HK1.out k (.inl q)).trans (HBW.out.block k (HH.out.lt q))))⟩
theorem Hd.turn {B : Nat} (h : Hd W s hb rhb n L M l l2 S w) (hS : S B) (hB : W.heap.size ≤ B) (h1 : hb ≠ B) (h2 : rhb ≠ B) (hg : w.grownBy w' (some B)) : Hd W s hb rhb n L M l l2 S w' := by
 obtain ⟨⟨ps, f, u, h0⟩, hd, rh⟩ := h
 have hk : ∀ k, k < w.heap.size → k ≠ B → w'.heap[k]? = w.heap[k]? := fun k hl hn => hg.block k hl (fun e => hn (Option.some.inj e))
 have hK : (fun k => k = hb ∨ k = rhb ∨ S k) B := .inr (.inr hS)
 have hT := h0.bs B hK
 refine ⟨⟨ps, f, u, h0.tr.of_blocks (fun k q => hk k (h0.tr.lt q) (fun e => hT.1 (e ▸ q))), h0.rf.kept (fun k q => hk k (h0.ltK (.inr (.inl q))) (fun e => hT.2 (e ▸ q))), h0.lo, h0.pr.turn (.inr (.inr hK)) hB hg, h0.ap, h0.bs⟩, ?_, ?_⟩
 ·exact (hk hb (ags hd).1 h1).trans hd
 ·exact (hk rhb (ags rh).1 h2).trans rh
theorem lay8_grown (w : World) (k : Nat) (c : Cp) : w.grownBy (lay8 w k c) (some k) := by
 unfold lay8
 exact grown_trans (grown_trans (grown_trans (grown_trans (grown_trans (grown_trans (grown_trans (grown_cell _ _ _ _) (grown_cell _ _ _ _)) (grown_cell _ _ _ _)) (grown_cell _ _ _ _)) (grown_cell _ _ _ _)) (grown_cell _ _ _ _)) (grown_cell _ _ _ _)) (grown_cell _ _ _ _)
theorem lay8_block (w : World) (k j : Nat) (c : Cp) (h : j ≠ k) : (lay8 w k c).heap[j]? = w.heap[j]? := by
 unfold lay8
 iterate 8 rw [Go.heap_setCell_other _ _ _ _ h]
theorem hclear_yes (h : Hd W s hb rhb n L M l l2 S w) (hT0 : CX.TabG W) (o i : Int) (ho : InS o) (hi : InS i) (hnn : n < 1000000) (hon : fullN L o i = 0) :
    Calls Tryz.prog 27 #[.pointer (some ⟨hb, 0, none⟩), slV o i] w fun e w' => e = .returned (.tuple #[(gt L o i).V, .int .i64 (removeA l o i).2]) ∧ Hd W s hb rhb (n + 1) (setM L o i zC) M (removeA l o i).1 l2 S w' ∧ SameK S w w' := by
  obtain ⟨hb1, hs1, hc1⟩ := two_boxes w o i
  obtain ⟨w1, hw1⟩ : ∃ y, y = (w.alloc (slO o i)).alloc (.cells zC.L.toArray 33) := ⟨_, rfl⟩
  rw [← hw1] at hb1 hs1 hc1
  have HH := hid h
  have H1 := hid (h.call hb1)
  have HB1 := hid hb1
  have HC1 := hid hc1
  have HS1 := hid hs1
  have HG := hid (hfull H1.out o i)
  rw [hon] at HG
  obtain ⟨L2, hL2⟩ : ∃ y, y = setM L o i zC := ⟨_, rfl⟩
  obtain ⟨l3, hl3⟩ : ∃ y, y = (removeA l o i).1 := ⟨_, rfl⟩
  obtain ⟨rn, hrn⟩ : ∃ y, y = (removeA l o i).2 := ⟨_, rfl⟩
  obtain ⟨sn, hsn⟩ : ∃ y, y = setN L o i zC := ⟨_, rfl⟩
  rw [← hL2, ← hl3, ← hrn]
  have HST : Hid (∀ v T, Hd W s hb rhb n L M l l2 T v → Calls Tryz.prog 71 #[.pointer (some ⟨s.sb, 0, none⟩), slV o i, .agg #[.int .i64 0, .int .i64 0, .int .i64 0, .int .u64 0, .int .i64 0, .int .i64 0, .int .i64 0, .int .i64 0]] v fun e w' => e = .returned (.int .i64 sn) ∧ Hd W s hb rhb n L2 M l l2 T w' ∧ SameK T v w') := hid (fun v T hv => by rw [hL2, hsn]; exact hv.act (fun K hK => hK.set hT0 o i zC (by decide)))
  have HRM : Hid (∀ v T, Hd W s hb rhb n L2 M l l2 T v → Calls Tryz.prog 72 #[.pointer (some ⟨s.tb, 0, none⟩), slV o i] v fun e w' => e = .returned (.int .i64 rn) ∧ Hd W s hb rhb (n + 1) L2 M l3 l2 T w' ∧ SameK T v w') := hid (fun v T hv => by rw [hl3, hrn]; exact hv.act (fun K hK => hK.remove o i ho hi hnn))
  obtain ⟨k0, k1⟩ := slot_cells hs1
  generalize gt L o i = c at *
  obtain ⟨ca, cb, cx, cd, ce, cf, cg, ch⟩ := c
  have HZ1 := hid (ags hc1).1
  have HZ0 := hid (ags hs1).1
  have HW := hid hw1
  clear h hb1 hs1 hc1 hw1 hT0 ho hi hnn hon hL2 hl3 hrn hsn
  go_enter Tryz.func27, Tryz.ntmps27
  go_upto_region 1 with fail
  rw [show ((w.alloc (slO o i)).alloc (.cells #[.int .i64 0, .int .i64 0, .int .i64 0, .int .u64 0, .int .i64 0, .int .i64 0, .int .i64 0, .int .i64 0] 33)) = w1 from HW.out.symm]
  go_upto_region 4 with (go_at_call 69; (with_reducible refine HG.out.mono ?_); rintro e w2 ⟨rfl, hb2⟩; have HB2 := hid hb2; clear hb2)
  obtain ⟨w3, hw3⟩ : ∃ y, y = w2.alloc (.cells #[.int .i64 ca, .int .i64 cb, .int .i64 cx, .int .u64 cd, .int .i64 ce, .int .i64 cf, .int .i64 cg, .int .i64 ch] 33) := ⟨_, rfl⟩
  have hb3 : Below w1.heap.size w1 w3 := hw3 ▸ bal HB2.out _
  have hx3 : w3.heap[w2.heap.size]? = some (.cells (⟨ca, cb, cx, cd, ce, cf, cg, ch⟩ : Cp).L.toArray 33 (0, 0)) := by rw [hw3]; exact heap_alloc_new w2 _
  have HX3 := hid hx3
  have HZ3 := hid (show w1.heap.size ≤ w2.heap.size from HB2.out.size)
  have HC3 := hid ((hb3.block _ HZ1.out).trans HC1.out)
  have HS3 := hid ((hb3.block _ HZ0.out).trans HS1.out)
  have HW3 := hid (HB1.out.trans (hb3.mono HB1.out.size))
  rw [← hw3]
  generalize w2.heap.size = xB at *
  have HE3 := hid (HH.out.fresh HW3.out)
  have HNS : Hid (New w w3 w.heap.size ∧ New w w3 (w.heap.size + 1) ∧ New w w3 xB) := hid ⟨⟨Nat.le_refl _, (ags HS3.out).1⟩, ⟨by omega, (ags HC3.out).1⟩, ⟨by have := HZ3.out; have := HZ1.out; omega, (ags HX3.out).1⟩⟩
  clear hw3 hb3 hx3 k0 k1 HG H1 HB1 HC1 HS1 HB2
  have HA4 : Hid (w3.cell? ⟨hb, 0, none⟩ = some (.pointer (some ⟨s.sb, 0, none⟩)) ∧ w3.cell? ⟨w.heap.size, 0, none⟩ = some (.int .i64 o) ∧ w3.cell? ⟨w.heap.size, 1, none⟩ = some (.int .i64 i)) := hid ⟨HE3.out.c.1, (slot_cells HS3.out).1, (slot_cells HS3.out).2⟩
  have HD4 : Hid (w3.drew.cell? ⟨hb, 0, none⟩ = some (.pointer (some ⟨s.sb, 0, none⟩)) ∧ w3.drew.cell? ⟨w.heap.size, 0, none⟩ = some (.int .i64 o) ∧ w3.drew.cell? ⟨w.heap.size, 1, none⟩ = some (.int .i64 i)) := hid HA4.out
  have HE3d := hid (HE3.out.call (show Below w3.heap.size w3 w3.drew from (Below.refl _ _).drew))
  have HSC := hid (HST.out _ _ HE3d.out)
  go_region_held3 (fun w' => w'.cell? ⟨hb, 0, none⟩ = some (.pointer (some ⟨s.sb, 0, none⟩)) ∧ w'.cell? ⟨w.heap.size, 0, none⟩ = some (.int .i64 o) ∧ w'.cell? ⟨w.heap.size, 1, none⟩ = some (.int .i64 i))
    (first | (with_reducible exact HA4.out) | (with_reducible exact HD4.out) | (with_reducible exact HF4.out))
    (first | (go_at_call 71; (with_reducible refine HSC.out.mono ?_); rintro e w4 ⟨rfl, h4, hk4⟩; have H4 := hid h4; have HK4 := hid hk4; have hs4 := (hk4 _ (.inr HNS.out.1)).trans HS3.out; have HS4 := hid hs4; have HC4 := hid ((hk4 _ (.inr HNS.out.2.1)).trans HC3.out); have HX4 := hid ((hk4 _ (.inr HNS.out.2.2)).trans HX3.out); have HF4 : Hid (w4.cell? ⟨hb, 0, none⟩ = some (.pointer (some ⟨s.sb, 0, none⟩)) ∧ w4.cell? ⟨w.heap.size, 0, none⟩ = some (.int .i64 o) ∧ w4.cell? ⟨w.heap.size, 1, none⟩ = some (.int .i64 i)) := hid ⟨h4.c.1, (slot_cells hs4).1, (slot_cells hs4).2⟩; clear h4 hk4 hs4))
  have HBW := hid (show W.heap.size ≤ w.heap.size from HH.out.below.size)
  have HNE : Hid (hb ≠ w.heap.size + 1 ∧ rhb ≠ w.heap.size + 1) := hid ⟨by have := HH.out.c.2.2; omega, by have := HH.out.rc.2.2; omega⟩
  have HTA : Hid (∀ v, Hd W s hb rhb n L2 M l l2 (fun k => S k ∨ New w w3 k) v → v.heap[w.heap.size]? = some (.cells #[.int .i64 o, .int .i64 i] 30 (0, 0)) → v.heap[xB]? = some (.cells (⟨ca, cb, cx, cd, ce, cf, cg, ch⟩ : Cp).L.toArray 33 (0, 0)) → v.cell? ⟨hb, 1, none⟩ = some (.pointer (some ⟨s.tb, 0, none⟩)) ∧ v.cell? ⟨w.heap.size, 0, none⟩ = some (.int .i64 o) ∧ v.cell? ⟨w.heap.size, 1, none⟩ = some (.int .i64 i) ∧ v.cell? ⟨xB, 0, none⟩ = some (.int .i64 ca) ∧ v.cell? ⟨xB, 1, none⟩ = some (.int .i64 cb) ∧ v.cell? ⟨xB, 2, none⟩ = some (.int .i64 cx) ∧ v.cell? ⟨xB, 3, none⟩ = some (.int .u64 cd) ∧ v.cell? ⟨xB, 4, none⟩ = some (.int .i64 ce) ∧ v.cell? ⟨xB, 5, none⟩ = some (.int .i64 cf) ∧ v.cell? ⟨xB, 6, none⟩ = some (.int .i64 cg) ∧ v.cell? ⟨xB, 7, none⟩ = some (.int .i64 ch)) := hid (fun v hv h1 h2 => ⟨hv.c.2.1, (slot_cells h1).1, (slot_cells h1).2, (cap_cells h2).1, (cap_cells h2).2.1, (cap_cells h2).2.2.1, (cap_cells h2).2.2.2.1, (cap_cells h2).2.2.2.2.1, (cap_cells h2).2.2.2.2.2.1, (cap_cells h2).2.2.2.2.2.2.1, (cap_cells h2).2.2.2.2.2.2.2⟩)
  have HTB : Hid (∀ v, Hd W s hb rhb (n + 1) L2 M l3 l2 (fun k => S k ∨ New w w3 k) v → v.heap[w.heap.size]? = some (.cells #[.int .i64 o, .int .i64 i] 30 (0, 0)) → v.heap[xB]? = some (.cells (⟨ca, cb, cx, cd, ce, cf, cg, ch⟩ : Cp).L.toArray 33 (0, 0)) → v.cell? ⟨hb, 1, none⟩ = some (.pointer (some ⟨s.tb, 0, none⟩)) ∧ v.cell? ⟨w.heap.size, 0, none⟩ = some (.int .i64 o) ∧ v.cell? ⟨w.heap.size, 1, none⟩ = some (.int .i64 i) ∧ v.cell? ⟨xB, 0, none⟩ = some (.int .i64 ca) ∧ v.cell? ⟨xB, 1, none⟩ = some (.int .i64 cb) ∧ v.cell? ⟨xB, 2, none⟩ = some (.int .i64 cx) ∧ v.cell? ⟨xB, 3, none⟩ = some (.int .u64 cd) ∧ v.cell? ⟨xB, 4, none⟩ = some (.int .i64 ce) ∧ v.cell? ⟨xB, 5, none⟩ = some (.int .i64 cf) ∧ v.cell? ⟨xB, 6, none⟩ = some (.int .i64 cg) ∧ v.cell? ⟨xB, 7, none⟩ = some (.int .i64 ch)) := hid (fun v hv h1 h2 => ⟨hv.c.2.1, (slot_cells h1).1, (slot_cells h1).2, (cap_cells h2).1, (cap_cells h2).2.1, (cap_cells h2).2.2.1, (cap_cells h2).2.2.2.1, (cap_cells h2).2.2.2.2.1, (cap_cells h2).2.2.2.2.2.1, (cap_cells h2).2.2.2.2.2.2.1, (cap_cells h2).2.2.2.2.2.2.2⟩)
  have HXN : Hid (xB ≠ w.heap.size + 1 ∧ w.heap.size ≠ w.heap.size + 1) := hid ⟨by have := HZ3.out; have := HZ1.out; omega, by omega⟩
  have HA5 := hid (HTA.out w4 H4.out HS4.out HX4.out)
  have H4d := hid (H4.out.call (show Below w4.heap.size w4 w4.drew from (Below.refl _ _).drew))
  have HD5 := hid (HTA.out w4.drew H4d.out HS4.out HX4.out)
  have HR5 := hid (HRM.out _ _ H4d.out)
  obtain ⟨t4, ht4⟩ : ∃ y, y = lay8 w4 (w.heap.size + 1) ⟨ca, cb, cx, cd, ce, cf, cg, ch⟩ := ⟨_, rfl⟩
  have H4t : Hid (Hd W s hb rhb n L2 M l l2 (fun k => S k ∨ New w w3 k) t4) := hid (by rw [ht4]; exact H4.out.turn (.inr HNS.out.2.1) (Nat.le_trans HBW.out (by omega)) HNE.out.1 HNE.out.2 (lay8_grown w4 (w.heap.size + 1) _))
  have HB4t : Hid (∀ k, k ≠ w.heap.size + 1 → t4.heap[k]? = w4.heap[k]?) := hid (fun k q => by rw [ht4]; exact lay8_block w4 _ _ _ q)
  have HS4t := hid ((HB4t.out _ HXN.out.2).trans HS4.out)
  have HX4t := hid ((HB4t.out _ HXN.out.1).trans HX4.out)
  have HC4t : Hid (t4.heap[w.heap.size + 1]? = some (.cells (⟨ca, cb, cx, cd, ce, cf, cg, ch⟩ : Cp).L.toArray 33 (0, 0))) := hid (by rw [ht4]; exact lay8_same _ HC4.out)
  have H4td := hid (H4t.out.call (show Below t4.heap.size t4 t4.drew from (Below.refl _ _).drew))
  have HA5t := hid (HTA.out _ H4t.out HS4t.out HX4t.out)
  have HD5t := hid (HTA.out _ H4td.out HS4t.out HX4t.out)
  have HR5t := hid (HRM.out _ _ H4td.out)
  have HK4t : Hid (∀ k, S k → t4.heap[k]? = w4.heap[k]?) := hid (fun k q => HB4t.out k (fun e => by have := HH.out.lt q; omega))
  simp only [lay8] at ht4
  rw [ht4] at HA5t HD5t HR5t
  have HT4 := hid ht4
  clear ht4
  obtain ⟨y0, y1, y2, y3, y4, y5, y6, y7⟩ := cap_cells HC4.out
  have g0 := cap_froz HC4.out 0
  have g1 := cap_froz HC4.out 1
  have g2 := cap_froz HC4.out 2
  have g3 := cap_froz HC4.out 3
  have g4 := cap_froz HC4.out 4
  have g5 := cap_froz HC4.out 5
  have g6 := cap_froz HC4.out 6
  have g7 := cap_froz HC4.out 7
  go_upto_region 5 with fail
  go_region_held3 (fun w' => w'.cell? ⟨hb, 1, none⟩ = some (.pointer (some ⟨s.tb, 0, none⟩)) ∧ w'.cell? ⟨w.heap.size, 0, none⟩ = some (.int .i64 o) ∧ w'.cell? ⟨w.heap.size, 1, none⟩ = some (.int .i64 i) ∧ w'.cell? ⟨xB, 0, none⟩ = some (.int .i64 ca) ∧ w'.cell? ⟨xB, 1, none⟩ = some (.int .i64 cb) ∧ w'.cell? ⟨xB, 2, none⟩ = some (.int .i64 cx) ∧ w'.cell? ⟨xB, 3, none⟩ = some (.int .u64 cd) ∧ w'.cell? ⟨xB, 4, none⟩ = some (.int .i64 ce) ∧ w'.cell? ⟨xB, 5, none⟩ = some (.int .i64 cf) ∧ w'.cell? ⟨xB, 6, none⟩ = some (.int .i64 cg) ∧ w'.cell? ⟨xB, 7, none⟩ = some (.int .i64 ch))
    (first | (with_reducible exact HA5.out) | (with_reducible exact HD5.out) | (with_reducible exact HA5t.out) | (with_reducible exact HD5t.out) | (with_reducible exact HF5.out) | (with_reducible exact HF5t.out))
    (first
      | (go_at_call 72; (with_reducible refine HR5.out.mono ?_); rintro e w5 ⟨rfl, h5, hk5⟩; have H5 := hid h5; have HK5 := hid hk5; have hc5 := (hk5 _ (.inr HNS.out.2.1)).trans HC4.out; have HC5 := hid hc5; have HS5 := hid ((hk5 _ (.inr HNS.out.1)).trans HS4.out); have HX5 := hid ((hk5 _ (.inr HNS.out.2.2)).trans HX4.out); have HF5 := hid (HTB.out w5 h5 HS5.out HX5.out); obtain ⟨u0, u1, u2, u3, u4, u5, u6, u7⟩ := cap_cells hc5; have v0 := cap_froz hc5 0; have v1 := cap_froz hc5 1; have v2 := cap_froz hc5 2; have v3 := cap_froz hc5 3; have v4 := cap_froz hc5 4; have v5 := cap_froz hc5 5; have v6 := cap_froz hc5 6; have v7 := cap_froz hc5 7; obtain ⟨t5, ht5⟩ : ∃ y, y = lay8 w5 (w.heap.size + 1) ⟨ca, cb, cx, cd, ce, cf, cg, ch⟩ := ⟨_, rfl⟩; have HE5t : Hid (Hd W s hb rhb (n + 1) L2 M l3 l2 (fun k => S k ∨ New w w3 k) t5) := hid (by rw [ht5]; exact H5.out.turn (.inr HNS.out.2.1) (Nat.le_trans HBW.out (by omega)) HNE.out.1 HNE.out.2 (lay8_grown w5 (w.heap.size + 1) _)); have HB5t : Hid (∀ k, k ≠ w.heap.size + 1 → t5.heap[k]? = w5.heap[k]?) := hid (fun k q => by rw [ht5]; exact lay8_block w5 _ _ _ q); have HC5t : Hid (t5.heap[w.heap.size + 1]? = some (.cells (⟨ca, cb, cx, cd, ce, cf, cg, ch⟩ : Cp).L.toArray 33 (0, 0))) := hid (by rw [ht5]; exact lay8_same _ HC5.out); have HF5t := hid (HTB.out t5 HE5t.out ((HB5t.out _ HXN.out.2).trans HS5.out) ((HB5t.out _ HXN.out.1).trans HX5.out)); simp only [lay8] at ht5; rw [ht5] at HF5t; have HT5 := hid ht5; clear ht5 h5 hk5 hc5)
      | (go_at_call 72; (with_reducible refine HR5t.out.mono ?_); rintro e w5 ⟨rfl, h5, hk5⟩; have H5 := hid h5; have HK5 := hid hk5; have HC5 := hid ((hk5 _ (.inr HNS.out.2.1)).trans HC4t.out); have HF5 := hid (HTB.out w5 h5 ((hk5 _ (.inr HNS.out.1)).trans HS4t.out) ((hk5 _ (.inr HNS.out.2.2)).trans HX4t.out)); have HLA := hid True.intro; clear h5 hk5))
  all_goals go_wp2
  all_goals
    first
      | (obtain ⟨q0, q1, q2, q3, q4, q5, q6, q7⟩ := cap_cells HC5t.out
         simp only [] at q0 q1 q2 q3 q4 q5 q6 q7
         rw [← HT5.out]
         exact bodyPost_ret (v := .tuple #[.agg #[.int .i64 ca, .int .i64 cb, .int .i64 cx, .int .u64 cd, .int .i64 ce, .int .i64 cf, .int .i64 cg, .int .i64 ch], .int .i64 rn]) (by simp [results, Tryz.results27, go_sem, q0, q1, q2, q3, q4, q5, q6, q7]) rfl ⟨rfl, HE5t.out.weak (fun k q => .inl q), fun k q => (HB5t.out k (fun e => by have := HH.out.lt q; omega)).trans ((HK5.out k (.inl q)).trans ((HK4.out k (.inl q)).trans (HW3.out.block k (HH.out.lt q))))⟩)
      | (obtain ⟨q0, q1, q2, q3, q4, q5, q6, q7⟩ := cap_cells HC5.out
         simp only [] at q0 q1 q2 q3 q4 q5 q6 q7
         exact bodyPost_ret (v := .tuple #[.agg #[.int .i64 ca, .int .i64 cb, .int .i64 cx, .int .u64 cd, .int .i64 ce, .int .i64 cf, .int .i64 cg, .int .i64 ch], .int .i64 rn]) (by simp [results, Tryz.results27, go_sem, q0, q1, q2, q3, q4, q5, q6, q7]) rfl ⟨rfl, H5.out.weak (fun k q => .inl q), fun k q => (HK5.out k (.inl q)).trans ((HK4t.out k q).trans ((HK4.out k (.inl q)).trans (HW3.out.block k (HH.out.lt q))))⟩)
def rclC (M : List Sn) (o i : Int) : Cp := if gn M o i ≠ 0 then zC else gt M o i
theorem below_turn {a b c d : World} {k : Nat} (h : Below a.heap.size a b) (h1 : Below b.heap.size b c) (h2 : c.grownBy d (some k)) (hk : a.heap.size ≤ k) : Below a.heap.size a d := by
 have h3 := h.trans (h1.mono h.size)
 exact ⟨h2.os.trans h3.os, h2.tape.trans h3.tape, h2.output.trans h3.output, Nat.le_trans h3.size h2.size, fun j hj => (h2.block j (Nat.lt_of_lt_of_le hj h3.size) (fun e => by have := Option.some.inj e; omega)).trans (h3.block j hj)⟩
theorem rclear_no (h : Hd W s hb rhb n L M l l2 S w) (hA : Asc (rowsS M)) (hl : M.length < 1000000) (o i : Int) (hno : fullN M o i ≠ 0) :
  Calls Tryz.prog 44 #[.pointer (some ⟨rhb, 0, none⟩), slV o i] w fun e w' => e = .returned (.tuple #[(rclC M o i).V, .int .i64 (fullN M o i)]) ∧ Below w.heap.size w w' := by
 unfold rclC fullN
 obtain ⟨hb1, hs1, hc1⟩ := two_boxes w o i
 obtain ⟨w1, hw1⟩ : ∃ y, y = (w.alloc (slO o i)).alloc (.cells zC.L.toArray 33) := ⟨_, rfl⟩
 rw [← hw1] at hb1 hs1 hc1
 have HB1 := hid hb1
 have HV1 := hid (Below.refl w1.heap.size w1)
 have HH := hid h
 have HXA := hid hs1
 have HXC := hid hc1
 have HE : Hid (∀ v, Below w1.heap.size w1 v → Hd W s hb rhb n L M l l2 S v) := hid (fun v hv => (h.call hb1).call hv)
 by_cases hga : gn M o i = 0
 ·have hta : (gt M o i).a = 0 := by
   by_cases q : (gt M o i).a = 0
   ·exact q
   ·exact absurd (by unfold fullN; rw [if_neg (fun e => q e.2)]; exact hga) hno
  rw [if_neg (fun e => e hga), if_pos ⟨hga, hta⟩]
  have HHa : Hid (∀ v, Below w1.heap.size w1 v → Calls Tryz.prog 79 #[.pointer (some ⟨s.srb, 0, none⟩), slV o i] v fun e w' => e = .returned (.bool true) ∧ Below v.heap.size v w') := hid (fun v hv => by have := rhas (HE.out v hv) hA hl o i; rw [decide_eq_true hga] at this; exact this)
  have HCa : Hid (∀ v, Below w1.heap.size w1 v → Calls Tryz.prog 81 #[.pointer (some ⟨rhb, 0, none⟩), slV o i] v fun e w' => e = .returned ((gt M o i).V) ∧ Below v.heap.size v w') := hid (fun v hv => rcap (HE.out v hv) hA hl o i)
  clear hno hga
  have HW := hid hw1
  generalize gt M o i = t at *
  obtain ⟨ta, tb, tx, td, te, tf, tg, th⟩ := t
  simp only [TabS.Cp.V] at HCa
  have hfdt : ∀ w : World, (Instr.field 33 (.agg #[.int .i64 ta, .int .i64 tb, .int .i64 tx, .int .u64 td, .int .i64 te, .int .i64 tf, .int .i64 tg, .int .i64 th]) 0).run Tryz.prog w = .ok (.int .i64 ta) w := fun _ => by kernel_rfl
  clear h hw1 hb1 hs1 hc1 hA hl
  simp only [] at hta
  subst hta
  go_enter Tryz.func44, Tryz.ntmps44
  go_upto_region 1 with fail
  rw [show ((w.alloc (slO o i)).alloc (.cells #[.int .i64 0, .int .i64 0, .int .i64 0, .int .u64 0, .int .i64 0, .int .i64 0, .int .i64 0, .int .i64 0] 33)) = w1 from HW.out.symm]
  have RP1 := hid (fun v (hv : KeptQ w1.heap.size w1 v) => (HE.out v (HV1.out.trans (hv.1.mono HV1.out.size))).rc.1)
  have RA1 := hid (fun v (hv : KeptQ w1.heap.size w1 v) => ldS (((HV1.out.trans (hv.1.mono HV1.out.size)).block _ (ags HXA.out).1).trans HXA.out))
  have RF10 := hid (fun v (hv : KeptQ w1.heap.size w1 v) => HHa.out v (HV1.out.trans (hv.1.mono HV1.out.size)))
  refine wp_region_keptQ w1.heap.size w1 (by kernel_rfl) (by kernel_rfl) (KeptQ.refl (Nat.le_refl _)) ?_
  repeat (first
   | go_big_quiet_skip
   | (go_big_quiet_want; first
    | (refine quietQ_load_cell 68 _ rfl ⟨rhb, 0, none⟩ rfl _ RP1.out _ Tryz.underlying68 rfl ?_; simp only [Act.put, List.setIfInBounds_toArray, List.set_cons_zero, List.set_cons_succ]; go_big_quiet_on)
    | (refine quietV 30 _ rfl ⟨w.heap.size, 0, none⟩ rfl _ RA1.out ?_; simp only [Act.put, List.setIfInBounds_toArray, List.set_cons_zero, List.set_cons_succ]; go_big_quiet_on)
    | (go_big_quiet_op; first
     | go_big_quiet_on
     | (refine ⟨_, fun _ _ => rfl, ?_⟩; go_big_quiet_on)
     | go_big_quiet_call ((intro hw; first
      | (go_at_call 79; (with_reducible refine (RF10.out _ hw).mono ?_); rintro e w7 ⟨rfl, hb7⟩; exact ⟨rfl, hw.call hb7⟩))))))
  refine wpQuiet_nil ?_
  intro w2 hq1
  have HV2 := hid (HV1.out.trans (hq1.1.mono HV1.out.size))
  clear hq1 RP1 RA1 RF10
  obtain ⟨k0, k1⟩ := slot_cells (((HV2.out).block _ (ags HXA.out).1).trans HXA.out)
  go_upto_region 4 with (go_at_call 81; (with_reducible refine (HCa.out _ HV2.out).mono ?_); rintro e w3 ⟨rfl, hb3⟩; have HV3 := hid (HV2.out.trans (hb3.mono HV2.out.size)); clear hb3)
  clear k0 k1
  obtain ⟨w4, hw4⟩ : ∃ y, y = w3.alloc (.cells #[.int .i64 0, .int .i64 tb, .int .i64 tx, .int .u64 td, .int .i64 te, .int .i64 tf, .int .i64 tg, .int .i64 th] 33) := ⟨_, rfl⟩
  have HV4 : Hid (Below w1.heap.size w1 w4) := hid (hw4 ▸ bal HV3.out _)
  have hx4 : w4.heap[w3.heap.size]? = some (.cells (⟨0, tb, tx, td, te, tf, tg, th⟩ : Cp).L.toArray 33 (0, 0)) := by rw [hw4]; exact heap_alloc_new w3 _
  rw [← hw4]
  generalize w3.heap.size = xB at *
  clear hw4
  obtain ⟨x0, x1, x2, x3, x4, x5, x6, x7⟩ := cap_cells hx4
  simp only [] at x0 x1 x2 x3 x4 x5 x6 x7
  clear hx4
  have HC4 := hid (((HV4.out).block _ (ags HXC.out).1).trans HXC.out)
  obtain ⟨y0, y1, y2, y3, y4, y5, y6, y7⟩ := cap_cells HC4.out
  have g0 := cap_froz HC4.out 0
  have g1 := cap_froz HC4.out 1
  have g2 := cap_froz HC4.out 2
  have g3 := cap_froz HC4.out 3
  have g4 := cap_froz HC4.out 4
  have g5 := cap_froz HC4.out 5
  have g6 := cap_froz HC4.out 6
  have g7 := cap_froz HC4.out 7
  have hz9 := (ags HC4.out).1
  have HF := hid (lay8_same ⟨0, tb, tx, td, te, tf, tg, th⟩ HC4.out)
  have HLB := hid (lay8_block w4 (w.heap.size + 1))
  have HLG := hid (lay8_grown w4 (w.heap.size + 1) ⟨0, tb, tx, td, te, tf, tg, th⟩)
  obtain ⟨w9, hw9⟩ : ∃ y, y = lay8 w4 (w.heap.size + 1) ⟨0, tb, tx, td, te, tf, tg, th⟩ := ⟨_, rfl⟩
  have HB9 : Hid (∀ k, k ≠ w.heap.size + 1 → w9.heap[k]? = w4.heap[k]?) := hid (fun k q => by rw [hw9]; exact HLB.out k _ q)
  rw [← hw9] at HF HLG
  simp only [lay8] at hw9
  have H9 := hid hw9
  clear hw9 HLB
  go_wp2
  rw [← H9.out]
  obtain ⟨q0, q1, q2, q3, q4, q5, q6, q7⟩ := cap_cells HF.out
  simp only [] at q0 q1 q2 q3 q4 q5 q6 q7
  exact bodyPost_ret (v := .tuple #[.agg #[.int .i64 0, .int .i64 tb, .int .i64 tx, .int .u64 td, .int .i64 te, .int .i64 tf, .int .i64 tg, .int .i64 th], .int .i64 10]) (by simp [results, Tryz.results44, go_sem, q0, q1, q2, q3, q4, q5, q6, q7]) rfl ⟨rfl, below_turn HB1.out HV4.out HLG.out (by omega)⟩
 ·have h3 : gn M o i = 3 := (gn_or M o i).resolve_left hga |>.1
  rw [if_pos hga, if_neg (fun e => hga e.1), h3]
  have HHa : Hid (∀ v, Below w1.heap.size w1 v → Calls Tryz.prog 79 #[.pointer (some ⟨s.srb, 0, none⟩), slV o i] v fun e w' => e = .returned (.bool false) ∧ Below v.heap.size v w') := hid (fun v hv => by have := rhas (HE.out v hv) hA hl o i; rw [decide_eq_false hga] at this; exact this)
  clear hno hga h3
  have HW := hid hw1
  clear h hw1 hb1 hs1 hc1 hA hl
  go_enter Tryz.func44, Tryz.ntmps44
  go_upto_region 1 with fail
  rw [show ((w.alloc (slO o i)).alloc (.cells #[.int .i64 0, .int .i64 0, .int .i64 0, .int .u64 0, .int .i64 0, .int .i64 0, .int .i64 0, .int .i64 0] 33)) = w1 from HW.out.symm]
  have RP1 := hid (fun v (hv : KeptQ w1.heap.size w1 v) => (HE.out v (HV1.out.trans (hv.1.mono HV1.out.size))).rc.1)
  have RA1 := hid (fun v (hv : KeptQ w1.heap.size w1 v) => ldS (((HV1.out.trans (hv.1.mono HV1.out.size)).block _ (ags HXA.out).1).trans HXA.out))
  have RF10 := hid (fun v (hv : KeptQ w1.heap.size w1 v) => HHa.out v (HV1.out.trans (hv.1.mono HV1.out.size)))
  refine wp_region_keptQ w1.heap.size w1 (by kernel_rfl) (by kernel_rfl) (KeptQ.refl (Nat.le_refl _)) ?_
  repeat (first
   | go_big_quiet_skip
   | (go_big_quiet_want; first
    | (refine quietQ_load_cell 68 _ rfl ⟨rhb, 0, none⟩ rfl _ RP1.out _ Tryz.underlying68 rfl ?_; simp only [Act.put, List.setIfInBounds_toArray, List.set_cons_zero, List.set_cons_succ]; go_big_quiet_on)
    | (refine quietV 30 _ rfl ⟨w.heap.size, 0, none⟩ rfl _ RA1.out ?_; simp only [Act.put, List.setIfInBounds_toArray, List.set_cons_zero, List.set_cons_succ]; go_big_quiet_on)
    | (go_big_quiet_op; first
     | go_big_quiet_on
     | (refine ⟨_, fun _ _ => rfl, ?_⟩; go_big_quiet_on)
     | go_big_quiet_call ((intro hw; first
      | (go_at_call 79; (with_reducible refine (RF10.out _ hw).mono ?_); rintro e w7 ⟨rfl, hb7⟩; exact ⟨rfl, hw.call hb7⟩))))))
  refine wpQuiet_nil ?_
  intro w2 hq1
  have HV2 := hid (HV1.out.trans (hq1.1.mono HV1.out.size))
  clear hq1 RP1 RA1 RF10
  have HC4 := hid (((HV2.out).block _ (ags HXC.out).1).trans HXC.out)
  obtain ⟨y0, y1, y2, y3, y4, y5, y6, y7⟩ := cap_cells HC4.out
  have g0 := cap_froz HC4.out 0
  have g1 := cap_froz HC4.out 1
  have g2 := cap_froz HC4.out 2
  have g3 := cap_froz HC4.out 3
  have g4 := cap_froz HC4.out 4
  have g5 := cap_froz HC4.out 5
  have g6 := cap_froz HC4.out 6
  have g7 := cap_froz HC4.out 7
  have hz9 := (ags HC4.out).1
  have HF := hid (lay8_same ⟨0, 0, 0, 0, 0, 0, 0, 0⟩ HC4.out)
  have HLB := hid (lay8_block w2 (w.heap.size + 1))
  have HLG := hid (lay8_grown w2 (w.heap.size + 1) ⟨0, 0, 0, 0, 0, 0, 0, 0⟩)
  obtain ⟨w9, hw9⟩ : ∃ y, y = lay8 w2 (w.heap.size + 1) ⟨0, 0, 0, 0, 0, 0, 0, 0⟩ := ⟨_, rfl⟩
  have HB9 : Hid (∀ k, k ≠ w.heap.size + 1 → w9.heap[k]? = w2.heap[k]?) := hid (fun k q => by rw [hw9]; exact HLB.out k _ q)
  rw [← hw9] at HF HLG
  simp only [lay8] at hw9
  have H9 := hid hw9
  clear hw9 HLB
  go_wp2
  rw [← H9.out]
  obtain ⟨q0, q1, q2, q3, q4, q5, q6, q7⟩ := cap_cells HF.out
  simp only [] at q0 q1 q2 q3 q4 q5 q6 q7
  exact bodyPost_ret (v := .tuple #[.agg #[.int .i64 0, .int .i64 0, .int .i64 0, .int .u64 0, .int .i64 0, .int .i64 0, .int .i64 0, .int .i64 0], .int .i64 3]) (by simp [results, Tryz.results44, go_sem, q0, q1, q2, q3, q4, q5, q6, q7]) rfl ⟨rfl, below_turn HB1.out HV2.out HLG.out (by omega)⟩
theorem rclear_yes (h : Hd W s hb rhb n L M l l2 S w) (hA : Asc (rowsS M)) (hl : M.length < 1000000) (o i : Int) (hD : Dep l2) (hon : fullN M o i = 0) :
  Calls Tryz.prog 44 #[.pointer (some ⟨rhb, 0, none⟩), slV o i] w fun e w' => e = .returned (.tuple #[(gt M o i).V, .int .i64 0]) ∧ Hd W s hb rhb n L (setM M o i zC) l (removeA l2 o i).1 S w' ∧ SameK S w w' := by
 obtain ⟨hb1, hs1, hc1⟩ := two_boxes w o i
 obtain ⟨w1, hw1⟩ : ∃ y, y = (w.alloc (slO o i)).alloc (.cells zC.L.toArray 33) := ⟨_, rfl⟩
 rw [← hw1] at hb1 hs1 hc1
 have HB1 := hid hb1
 have HV1 := hid (Below.refl w1.heap.size w1)
 have HH := hid h
 have HXA := hid hs1
 have HXC := hid hc1
 have HE : Hid (∀ v, Below w1.heap.size w1 v → Hd W s hb rhb n L M l l2 S v) := hid (fun v hv => (h.call hb1).call hv)
 obtain ⟨hga, hta⟩ := fullN_zero hon
 obtain ⟨M2, hM2⟩ : ∃ y, y = setM M o i zC := ⟨_, rfl⟩
 obtain ⟨l3, hl3⟩ : ∃ y, y = (removeA l2 o i).1 := ⟨_, rfl⟩
 rw [← hM2, ← hl3]
 obtain ⟨sn, hsn⟩ : ∃ y, y = setN M o i zC := ⟨_, rfl⟩
 obtain ⟨rn, hrn⟩ : ∃ y, y = (removeA l2 o i).2 := ⟨_, rfl⟩
 have HHa : Hid (∀ v, Below w1.heap.size w1 v → Calls Tryz.prog 79 #[.pointer (some ⟨s.srb, 0, none⟩), slV o i] v fun e w' => e = .returned (.bool true) ∧ Below v.heap.size v w') := hid (fun v hv => by have := rhas (HE.out v hv) hA hl o i; rw [decide_eq_true hga] at this; exact this)
 have HCa : Hid (∀ v, Below w1.heap.size w1 v → Calls Tryz.prog 81 #[.pointer (some ⟨rhb, 0, none⟩), slV o i] v fun e w' => e = .returned ((gt M o i).V) ∧ Below v.heap.size v w') := hid (fun v hv => rcap (HE.out v hv) hA hl o i)
 have HST : Hid (∀ v T, Hd W s hb rhb n L M l l2 T v → Calls Tryz.prog 82 #[.pointer (some ⟨s.srb, 0, none⟩), slV o i, .agg #[.int .i64 0, .int .i64 0, .int .i64 0, .int .u64 0, .int .i64 0, .int .i64 0, .int .i64 0, .int .i64 0]] v fun e w' => e = .returned (.int .i64 sn) ∧ Hd W s hb rhb n L M2 l l2 T w' ∧ SameK T v w') := hid (fun v T hv => by rw [hM2, hsn]; exact hv.act (fun K hK => hK.rset hA hl o i zC))
 have HRM : Hid (∀ v T, Hd W s hb rhb n L M2 l l2 T v → Calls Tryz.prog 93 #[.pointer (some ⟨s.trb, 0, none⟩), slV o i] v fun e w' => e = .returned (.int .i64 rn) ∧ Hd W s hb rhb n L M2 l l3 T w' ∧ SameK T v w') := hid (fun v T hv => by rw [hl3, hrn]; exact hv.act (fun K hK => hK.rremove o i hD))
 have HW := hid hw1
 generalize gt M o i = t at *
 obtain ⟨ta, tb, tx, td, te, tf, tg, th⟩ := t
 simp only [TabS.Cp.V] at HCa
 have hfdt : ∀ w : World, (Instr.field 33 (.agg #[.int .i64 ta, .int .i64 tb, .int .i64 tx, .int .u64 td, .int .i64 te, .int .i64 tf, .int .i64 tg, .int .i64 th]) 0).run Tryz.prog w = .ok (.int .i64 ta) w := fun _ => by kernel_rfl
 clear h hw1 hb1 hs1 hc1 hA hl
 clear hga hon hM2 hl3 hsn hrn hD
 simp only [] at hta
 have hta' : (ta == 0) = false := beq_eq_false_iff_ne.2 hta
 go_enter Tryz.func44, Tryz.ntmps44
 go_upto_region 1 with fail
 rw [show ((w.alloc (slO o i)).alloc (.cells #[.int .i64 0, .int .i64 0, .int .i64 0, .int .u64 0, .int .i64 0, .int .i64 0, .int .i64 0, .int .i64 0] 33)) = w1 from HW.out.symm]
 have RP1 := hid (fun v (hv : KeptQ w1.heap.size w1 v) => (HE.out v (HV1.out.trans (hv.1.mono HV1.out.size))).rc.1)
 have RA1 := hid (fun v (hv : KeptQ w1.heap.size w1 v) => ldS (((HV1.out.trans (hv.1.mono HV1.out.size)).block _ (ags HXA.out).1).trans HXA.out))
 have RF10 := hid (fun v (hv : KeptQ w1.heap.size w1 v) => HHa.out v (HV1.out.trans (hv.1.mono HV1.out.size)))
 refine wp_region_keptQ w1.heap.size w1 (by kernel_rfl) (by kernel_rfl) (KeptQ.refl (Nat.le_refl _)) ?_
 repeat (first
  | go_big_quiet_skip
  | (go_big_quiet_want; first
   | (refine quietQ_load_cell 68 _ rfl ⟨rhb, 0, none⟩ rfl _ RP1.out _ Tryz.underlying68 rfl ?_; simp only [Act.put, List.setIfInBounds_toArray, List.set_cons_zero, List.set_cons_succ]; go_big_quiet_on)
   | (refine quietV 30 _ rfl ⟨w.heap.size, 0, none⟩ rfl _ RA1.out ?_; simp only [Act.put, List.setIfInBounds_toArray, List.set_cons_zero, List.set_cons_succ]; go_big_quiet_on)
   | (go_big_quiet_op; first
    | go_big_quiet_on
    | (refine ⟨_, fun _ _ => rfl, ?_⟩; go_big_quiet_on)
    | go_big_quiet_call ((intro hw; first
     | (go_at_call 79; (with_reducible refine (RF10.out _ hw).mono ?_); rintro e w7 ⟨rfl, hb7⟩; exact ⟨rfl, hw.call hb7⟩))))))
 refine wpQuiet_nil ?_
 intro w2 hq1
 have HV2 := hid (HV1.out.trans (hq1.1.mono HV1.out.size))
 clear hq1 RP1 RA1 RF10
 obtain ⟨k0, k1⟩ := slot_cells (((HV2.out).block _ (ags HXA.out).1).trans HXA.out)
 go_upto_region 4 with (go_at_call 81; (with_reducible refine (HCa.out _ HV2.out).mono ?_); rintro e w3 ⟨rfl, hb3⟩; have HV3 := hid (HV2.out.trans (hb3.mono HV2.out.size)); clear hb3)
 clear k0 k1
 obtain ⟨w4, hw4⟩ : ∃ y, y = w3.alloc (.cells #[.int .i64 ta, .int .i64 tb, .int .i64 tx, .int .u64 td, .int .i64 te, .int .i64 tf, .int .i64 tg, .int .i64 th] 33) := ⟨_, rfl⟩
 have HV4 : Hid (Below w1.heap.size w1 w4) := hid (hw4 ▸ bal HV3.out _)
 have HX4 : Hid (w4.heap[w3.heap.size]? = some (.cells (⟨ta, tb, tx, td, te, tf, tg, th⟩ : Cp).L.toArray 33 (0, 0))) := hid (by rw [hw4]; exact heap_alloc_new w3 _)
 have HZt : Hid (w.heap.size ≤ w3.heap.size) := hid (Nat.le_trans HB1.out.size HV3.out.size)
 have HZq : Hid (w.heap.size + 1 < w3.heap.size) := hid (Nat.lt_of_lt_of_le (ags HXC.out).1 HV3.out.size)
 rw [← hw4]
 generalize w3.heap.size = xB at *
 clear hw4
 obtain ⟨x0, -⟩ := cap_cells HX4.out
 simp only [] at x0
 go_upto_region 6 with fail
 clear x0
 have BFA0 := hid (((HV4.out).block _ (ags HXA.out).1).trans HXA.out)
 have BFC0 := hid (((HV4.out).block _ (ags HXC.out).1).trans HXC.out)
 have HBW := hid (HB1.out.trans (HV4.out.mono HB1.out.size))
 have HT0 := hid (HH.out.fresh HBW.out)
 have HNA : Hid (New w w4 (w.heap.size)) := hid ⟨by omega, (ags BFA0.out).1⟩
 have HNC : Hid (New w w4 (w.heap.size + 1)) := hid ⟨by omega, (ags BFC0.out).1⟩
 have HNt : Hid (New w w4 (xB)) := hid ⟨HZt.out, (ags HX4.out).1⟩
 have HA1 : Hid (w4.cell? ⟨rhb, 0, none⟩ = some (.pointer (some ⟨s.srb, 0, none⟩)) ∧ w4.cell? ⟨w.heap.size, 0, none⟩ = some (.int .i64 o) ∧ w4.cell? ⟨w.heap.size, 1, none⟩ = some (.int .i64 i)) := hid ⟨HT0.out.rc.1, (slot_cells BFA0.out).1, (slot_cells BFA0.out).2⟩
 have HD1 : Hid (w4.drew.cell? ⟨rhb, 0, none⟩ = some (.pointer (some ⟨s.srb, 0, none⟩)) ∧ w4.drew.cell? ⟨w.heap.size, 0, none⟩ = some (.int .i64 o) ∧ w4.drew.cell? ⟨w.heap.size, 1, none⟩ = some (.int .i64 i)) := hid HA1.out
 have HE1d := hid (HT0.out.call (show Below w4.heap.size w4 w4.drew from (Below.refl _ _).drew))
 have HC1 := hid (HST.out _ _ HE1d.out)
 go_region_held3 (fun w' => w'.cell? ⟨rhb, 0, none⟩ = some (.pointer (some ⟨s.srb, 0, none⟩)) ∧ w'.cell? ⟨w.heap.size, 0, none⟩ = some (.int .i64 o) ∧ w'.cell? ⟨w.heap.size, 1, none⟩ = some (.int .i64 i))
  (first | (with_reducible exact HA1.out) | (with_reducible exact HD1.out) | (with_reducible exact HF1.out))
  (first | (go_at_call 82; (with_reducible refine HC1.out.mono ?_); rintro e a1 ⟨rfl, hh, hk⟩; have HH1 := hid hh; have bfA := (hk _ (.inr HNA.out)).trans BFA0.out; have BFA1 := hid bfA; have bfC := (hk _ (.inr HNC.out)).trans BFC0.out; have BFC1 := hid bfC; have bft := (hk _ (.inr HNt.out)).trans HX4.out; have BFt1 := hid bft; have HK1 := hid hk; have HF1 : Hid (a1.cell? ⟨rhb, 0, none⟩ = some (.pointer (some ⟨s.srb, 0, none⟩)) ∧ a1.cell? ⟨w.heap.size, 0, none⟩ = some (.int .i64 o) ∧ a1.cell? ⟨w.heap.size, 1, none⟩ = some (.int .i64 i)) := hid ⟨hh.rc.1, (slot_cells bfA).1, (slot_cells bfA).2⟩; clear hh hk bfA bfC bft))
 have HA2 : Hid (a1.cell? ⟨rhb, 1, none⟩ = some (.pointer (some ⟨s.trb, 0, none⟩)) ∧ a1.cell? ⟨w.heap.size, 0, none⟩ = some (.int .i64 o) ∧ a1.cell? ⟨w.heap.size, 1, none⟩ = some (.int .i64 i)) := hid ⟨HH1.out.rc.2.1, (slot_cells BFA1.out).1, (slot_cells BFA1.out).2⟩
 have HD2 : Hid (a1.drew.cell? ⟨rhb, 1, none⟩ = some (.pointer (some ⟨s.trb, 0, none⟩)) ∧ a1.drew.cell? ⟨w.heap.size, 0, none⟩ = some (.int .i64 o) ∧ a1.drew.cell? ⟨w.heap.size, 1, none⟩ = some (.int .i64 i)) := hid HA2.out
 have HE2d := hid (HH1.out.call (show Below a1.heap.size a1 a1.drew from (Below.refl _ _).drew))
 have HC2 := hid (HRM.out _ _ HE2d.out)
 go_upto_region 7 with fail
 go_region_held3 (fun w' => w'.cell? ⟨rhb, 1, none⟩ = some (.pointer (some ⟨s.trb, 0, none⟩)) ∧ w'.cell? ⟨w.heap.size, 0, none⟩ = some (.int .i64 o) ∧ w'.cell? ⟨w.heap.size, 1, none⟩ = some (.int .i64 i))
  (first | (with_reducible exact HA2.out) | (with_reducible exact HD2.out) | (with_reducible exact HF2.out))
  (first | (go_at_call 93; (with_reducible refine HC2.out.mono ?_); rintro e a2 ⟨rfl, hh, hk⟩; have HH2 := hid hh; have bfA := (hk _ (.inr HNA.out)).trans BFA1.out; have BFA2 := hid bfA; have bfC := (hk _ (.inr HNC.out)).trans BFC1.out; have BFC2 := hid bfC; have bft := (hk _ (.inr HNt.out)).trans BFt1.out; have BFt2 := hid bft; have HK2 := hid hk; have HF2 : Hid (a2.cell? ⟨rhb, 1, none⟩ = some (.pointer (some ⟨s.trb, 0, none⟩)) ∧ a2.cell? ⟨w.heap.size, 0, none⟩ = some (.int .i64 o) ∧ a2.cell? ⟨w.heap.size, 1, none⟩ = some (.int .i64 i)) := hid ⟨hh.rc.2.1, (slot_cells bfA).1, (slot_cells bfA).2⟩; clear hh hk bfA bfC bft))
 go_upto_region 8 with fail
 obtain ⟨x0, x1, x2, x3, x4, x5, x6, x7⟩ := cap_cells BFt2.out
 simp only [] at x0 x1 x2 x3 x4 x5 x6 x7
 have HNE : Hid (hb ≠ w.heap.size + 1 ∧ rhb ≠ w.heap.size + 1 ∧ W.heap.size ≤ w.heap.size) := hid ⟨by have := HH.out.c.2.2; omega, by have := HH.out.rc.2.2; omega, HH.out.below.size⟩
 obtain ⟨y0, y1, y2, y3, y4, y5, y6, y7⟩ := cap_cells BFC2.out
 have g0 := cap_froz BFC2.out 0
 have g1 := cap_froz BFC2.out 1
 have g2 := cap_froz BFC2.out 2
 have g3 := cap_froz BFC2.out 3
 have g4 := cap_froz BFC2.out 4
 have g5 := cap_froz BFC2.out 5
 have g6 := cap_froz BFC2.out 6
 have g7 := cap_froz BFC2.out 7
 have hz9 := (ags BFC2.out).1
 have HF := hid (lay8_same ⟨ta, tb, tx, td, te, tf, tg, th⟩ BFC2.out)
 have HLB := hid (lay8_block a2 (w.heap.size + 1))
 have HLG := hid (lay8_grown a2 (w.heap.size + 1) ⟨ta, tb, tx, td, te, tf, tg, th⟩)
 obtain ⟨w9, hw9⟩ : ∃ y, y = lay8 a2 (w.heap.size + 1) ⟨ta, tb, tx, td, te, tf, tg, th⟩ := ⟨_, rfl⟩
 have HB9 : Hid (∀ k, k ≠ w.heap.size + 1 → w9.heap[k]? = a2.heap[k]?) := hid (fun k q => by rw [hw9]; exact HLB.out k _ q)
 rw [← hw9] at HF HLG
 simp only [lay8] at hw9
 have H9 := hid hw9
 clear hw9 HLB
 go_wp2
 rw [← H9.out]
 obtain ⟨q0, q1, q2, q3, q4, q5, q6, q7⟩ := cap_cells HF.out
 simp only [] at q0 q1 q2 q3 q4 q5 q6 q7
 exact bodyPost_ret (v := .tuple #[.agg #[.int .i64 ta, .int .i64 tb, .int .i64 tx, .int .u64 td, .int .i64 te, .int .i64 tf, .int .i64 tg, .int .i64 th], .int .i64 0]) (by simp [results, Tryz.results44, go_sem, q0, q1, q2, q3, q4, q5, q6, q7]) rfl ⟨rfl, (HH2.out.turn (.inr HNC.out) (Nat.le_trans HNE.out.2.2 (by omega)) HNE.out.1 HNE.out.2.1 HLG.out).weak (fun k q => .inl q), fun k q => (HB9.out k (fun e => by have := HH.out.lt q; omega)).trans ((HK2.out k (.inl q)).trans ((HK1.out k (.inl q)).trans (HBW.out.block k (HH.out.lt q))))⟩
end HdS
end
end Go.Proofs.YtchjfeafkmpmbaaGreatDoor
