import Derived.Test.YtchjfeafkmpmbaaGreatDoorPkbg
namespace Go.Proofs.YtchjfeafkmpmbaaGreatDoor
set_option linter.unusedVariables false
set_option linter.unusedSimpArgs false
set_option maxRecDepth 100000
set_option maxHeartbeats 8000000
open Lib (hid)
section
open Go.ChangeShapes Go.WideShapes Go.ChangeAt Go.RowKit Go.Shelf
namespace HdS
open TabS (Cp Sn zC mayC sizS getR getN Two Pr FootP foot_ltP foot_ltR SameS AddRel addSR setN setM rowsS hasS dropSR dropSL heldA hdsC)
variable {W w w' : World} {s : Sh} {hb rhb n n' : Nat} {L M L' M' : List Sn} {l l2 l' l2' : List Nod} {S : Nat → Prop}
theorem keep8 {w w' : World} {k : Nat} {v0 v1 v2 v3 v4 v5 v6 v7 : Value} (h : w'.heap[k]? = w.heap[k]?) (hc : w.cell? ⟨k, 0, none⟩ = some v0 ∧ w.cell? ⟨k, 1, none⟩ = some v1 ∧ w.cell? ⟨k, 2, none⟩ = some v2 ∧ w.cell? ⟨k, 3, none⟩ = some v3 ∧ w.cell? ⟨k, 4, none⟩ = some v4 ∧ w.cell? ⟨k, 5, none⟩ = some v5 ∧ w.cell? ⟨k, 6, none⟩ = some v6 ∧ w.cell? ⟨k, 7, none⟩ = some v7) : w'.cell? ⟨k, 0, none⟩ = some v0 ∧ w'.cell? ⟨k, 1, none⟩ = some v1 ∧ w'.cell? ⟨k, 2, none⟩ = some v2 ∧ w'.cell? ⟨k, 3, none⟩ = some v3 ∧ w'.cell? ⟨k, 4, none⟩ = some v4 ∧ w'.cell? ⟨k, 5, none⟩ = some v5 ∧ w'.cell? ⟨k, 6, none⟩ = some v6 ∧ w'.cell? ⟨k, 7, none⟩ = some v7 := by
 obtain ⟨c0, c1, c2, c3, c4, c5, c6, c7⟩ := hc
 exact ⟨(World.cell?_of_block (a := ⟨k, 0, none⟩) h).trans c0, (World.cell?_of_block (a := ⟨k, 1, none⟩) h).trans c1, (World.cell?_of_block (a := ⟨k, 2, none⟩) h).trans c2, (World.cell?_of_block (a := ⟨k, 3, none⟩) h).trans c3, (World.cell?_of_block (a := ⟨k, 4, none⟩) h).trans c4, (World.cell?_of_block (a := ⟨k, 5, none⟩) h).trans c5, (World.cell?_of_block (a := ⟨k, 6, none⟩) h).trans c6, (World.cell?_of_block (a := ⟨k, 7, none⟩) h).trans c7⟩
theorem cset {w : World} {k j : Nat} {v x : Value} (h : w.cell? ⟨k, j, none⟩ = some x) : (w.setCell ⟨k, j, none⟩ v).cell? ⟨k, j, none⟩ = some v := by
 obtain ⟨y, hy⟩ : ∃ y, y = x := ⟨_, rfl⟩
 rw [← hy] at h
 go_simp
def rswN : Int := 3
theorem rswap_no (h : Hd W s hb rhb n L M l l2 S w) (hA : Asc (rowsS M)) (hl : M.length < 1000000) (o i p j : Int) (hno : ¬ (gn M o i = 0 ∧ gn M p j = 0)) :
  Calls Tryz.prog 43 #[.pointer (some ⟨rhb, 0, none⟩), slV o i, slV p j] w fun e w' => e = .returned (.int .i64 rswN) ∧ Below w.heap.size w w' := by
 unfold rswN
 obtain ⟨hb1, hs1, ht1⟩ := duo_boxes w o i p j
 obtain ⟨w1, hw1⟩ : ∃ y, y = (w.alloc (slO o i)).alloc (slO p j) := ⟨_, rfl⟩
 rw [← hw1] at hb1 hs1 ht1
 have HB1 := hid hb1
 have HV1 := hid (Below.refl w1.heap.size w1)
 have HH := hid h
 have HXA := hid hs1
 have HXB := hid ht1
 have HE : Hid (∀ v, Below w1.heap.size w1 v → Hd W s hb rhb n L M l l2 S v) := hid (fun v hv => (h.call hb1).call hv)
 by_cases hga : gn M o i = 0
 ·have hgb : gn M p j ≠ 0 := fun e => hno ⟨hga, e⟩
  have HHa : Hid (∀ v, Below w1.heap.size w1 v → Calls Tryz.prog 79 #[.pointer (some ⟨s.srb, 0, none⟩), slV o i] v fun e w' => e = .returned (.bool true) ∧ Below v.heap.size v w') := hid (fun v hv => by have := rhas (HE.out v hv) hA hl o i; rw [decide_eq_true hga] at this; exact this)
  have HHb : Hid (∀ v, Below w1.heap.size w1 v → Calls Tryz.prog 79 #[.pointer (some ⟨s.srb, 0, none⟩), slV p j] v fun e w' => e = .returned (.bool false) ∧ Below v.heap.size v w') := hid (fun v hv => by have := rhas (HE.out v hv) hA hl p j; rw [decide_eq_false hgb] at this; exact this)
  have HW := hid hw1
  clear h hw1 hb1 hs1 ht1 hA hl
  clear hga hgb hno
  go_enter Tryz.func43, Tryz.ntmps43
  go_upto_region 1 with fail
  rw [show ((w.alloc (slO o i)).alloc (slO p j)) = w1 from HW.out.symm]
  have RP1 := hid (fun v (hv : KeptQ w1.heap.size w1 v) => (HE.out v (HV1.out.trans (hv.1.mono HV1.out.size))).rc.1)
  have RA1 := hid (fun v (hv : KeptQ w1.heap.size w1 v) => ldS (((HV1.out.trans (hv.1.mono HV1.out.size)).block _ (ags HXA.out).1).trans HXA.out))
  have RB1 := hid (fun v (hv : KeptQ w1.heap.size w1 v) => ldS (((HV1.out.trans (hv.1.mono HV1.out.size)).block _ (ags HXB.out).1).trans HXB.out))
  have RF10 := hid (fun v (hv : KeptQ w1.heap.size w1 v) => HHa.out v (HV1.out.trans (hv.1.mono HV1.out.size)))
  have RF11 := hid (fun v (hv : KeptQ w1.heap.size w1 v) => HHb.out v (HV1.out.trans (hv.1.mono HV1.out.size)))
  refine wp_region_keptQ w1.heap.size w1 (by kernel_rfl) (by kernel_rfl) (KeptQ.refl (Nat.le_refl _)) ?_
  repeat (first
   | go_big_quiet_skip
   | (go_big_quiet_want; first
    | (refine quietQ_load_cell 68 _ rfl ⟨rhb, 0, none⟩ rfl _ RP1.out _ Tryz.underlying68 rfl ?_; simp only [Act.put, List.setIfInBounds_toArray, List.set_cons_zero, List.set_cons_succ]; go_big_quiet_on)
    | (refine quietV 30 _ rfl ⟨w.heap.size, 0, none⟩ rfl _ RA1.out ?_; simp only [Act.put, List.setIfInBounds_toArray, List.set_cons_zero, List.set_cons_succ]; go_big_quiet_on)
    | (refine quietV 30 _ rfl ⟨w.heap.size + 1, 0, none⟩ rfl _ RB1.out ?_; simp only [Act.put, List.setIfInBounds_toArray, List.set_cons_zero, List.set_cons_succ]; go_big_quiet_on)
    | (go_big_quiet_op; first
     | go_big_quiet_on
     | (refine ⟨_, fun _ _ => rfl, ?_⟩; go_big_quiet_on)
     | go_big_quiet_call ((intro hw; first
      | (go_at_call 79; (with_reducible refine (RF10.out _ hw).mono ?_); rintro e w7 ⟨rfl, hb7⟩; exact ⟨rfl, hw.call hb7⟩)
      | (go_at_call 79; (with_reducible refine (RF11.out _ hw).mono ?_); rintro e w7 ⟨rfl, hb7⟩; exact ⟨rfl, hw.call hb7⟩))))))
  refine wpQuiet_nil ?_
  intro w2 hq1
  have HV2 := hid (HV1.out.trans (hq1.1.mono HV1.out.size))
  clear hq1 RP1 RA1 RB1 RF10 RF11
  go_wp2
  go_ret
  exact ⟨rfl, HB1.out.trans (HV2.out.mono HB1.out.size)⟩
 ·clear hno
  have HHa : Hid (∀ v, Below w1.heap.size w1 v → Calls Tryz.prog 79 #[.pointer (some ⟨s.srb, 0, none⟩), slV o i] v fun e w' => e = .returned (.bool false) ∧ Below v.heap.size v w') := hid (fun v hv => by have := rhas (HE.out v hv) hA hl o i; rw [decide_eq_false hga] at this; exact this)
  have HW := hid hw1
  clear h hw1 hb1 hs1 ht1 hA hl
  clear hga
  go_enter Tryz.func43, Tryz.ntmps43
  go_upto_region 1 with fail
  rw [show ((w.alloc (slO o i)).alloc (slO p j)) = w1 from HW.out.symm]
  have RP1 := hid (fun v (hv : KeptQ w1.heap.size w1 v) => (HE.out v (HV1.out.trans (hv.1.mono HV1.out.size))).rc.1)
  have RA1 := hid (fun v (hv : KeptQ w1.heap.size w1 v) => ldS (((HV1.out.trans (hv.1.mono HV1.out.size)).block _ (ags HXA.out).1).trans HXA.out))
  have RB1 := hid (fun v (hv : KeptQ w1.heap.size w1 v) => ldS (((HV1.out.trans (hv.1.mono HV1.out.size)).block _ (ags HXB.out).1).trans HXB.out))
  have RF10 := hid (fun v (hv : KeptQ w1.heap.size w1 v) => HHa.out v (HV1.out.trans (hv.1.mono HV1.out.size)))
  refine wp_region_keptQ w1.heap.size w1 (by kernel_rfl) (by kernel_rfl) (KeptQ.refl (Nat.le_refl _)) ?_
  repeat (first
   | go_big_quiet_skip
   | (go_big_quiet_want; first
    | (refine quietQ_load_cell 68 _ rfl ⟨rhb, 0, none⟩ rfl _ RP1.out _ Tryz.underlying68 rfl ?_; simp only [Act.put, List.setIfInBounds_toArray, List.set_cons_zero, List.set_cons_succ]; go_big_quiet_on)
    | (refine quietV 30 _ rfl ⟨w.heap.size, 0, none⟩ rfl _ RA1.out ?_; simp only [Act.put, List.setIfInBounds_toArray, List.set_cons_zero, List.set_cons_succ]; go_big_quiet_on)
    | (refine quietV 30 _ rfl ⟨w.heap.size + 1, 0, none⟩ rfl _ RB1.out ?_; simp only [Act.put, List.setIfInBounds_toArray, List.set_cons_zero, List.set_cons_succ]; go_big_quiet_on)
    | (go_big_quiet_op; first
     | go_big_quiet_on
     | (refine ⟨_, fun _ _ => rfl, ?_⟩; go_big_quiet_on)
     | go_big_quiet_call ((intro hw; first
      | (go_at_call 79; (with_reducible refine (RF10.out _ hw).mono ?_); rintro e w7 ⟨rfl, hb7⟩; exact ⟨rfl, hw.call hb7⟩))))))
  refine wpQuiet_nil ?_
  intro w2 hq1
  have HV2 := hid (HV1.out.trans (hq1.1.mono HV1.out.size))
  clear hq1 RP1 RA1 RB1 RF10
  go_wp2
  go_ret
  exact ⟨rfl, HB1.out.trans (HV2.out.mono HB1.out.size)⟩
theorem rswap_yes (h : Hd W s hb rhb n L M l l2 S w) (hA : Asc (rowsS M)) (hl : M.length < 1000000) (o i p j : Int) (hO : Once l2) (hon : gn M o i = 0 ∧ gn M p j = 0) :
  Calls Tryz.prog 43 #[.pointer (some ⟨rhb, 0, none⟩), slV o i, slV p j] w fun e w' => e = .returned (.int .i64 0) ∧ Hd W s hb rhb n L (swapL M o i p j) l (swapA l2 o i p j) S w' ∧ SameK S w w' := by
 obtain ⟨hb1, hs1, ht1⟩ := duo_boxes w o i p j
 obtain ⟨w1, hw1⟩ : ∃ y, y = (w.alloc (slO o i)).alloc (slO p j) := ⟨_, rfl⟩
 rw [← hw1] at hb1 hs1 ht1
 have HB1 := hid hb1
 have HV1 := hid (Below.refl w1.heap.size w1)
 have HH := hid h
 have HXA := hid hs1
 have HXB := hid ht1
 have HE : Hid (∀ v, Below w1.heap.size w1 v → Hd W s hb rhb n L M l l2 S v) := hid (fun v hv => (h.call hb1).call hv)
 obtain ⟨hga, hgb⟩ := hon
 obtain ⟨M2, hM2⟩ : ∃ y, y = setM M o i (gt M p j) := ⟨_, rfl⟩
 obtain ⟨M3, hM3⟩ : ∃ y, y = setM M2 p j (gt M o i) := ⟨_, rfl⟩
 obtain ⟨l3, hl3⟩ : ∃ y, y = swapA l2 o i p j := ⟨_, rfl⟩
 obtain ⟨n2, hn2⟩ : ∃ y, y = setN M o i (gt M p j) := ⟨_, rfl⟩
 obtain ⟨n3, hn3⟩ : ∃ y, y = setN M2 p j (gt M o i) := ⟨_, rfl⟩
 have hl2 : M2.length < 1000000 := by rw [hM2, TabS.set_len]; exact hl
 have hA2 : Asc (rowsS M2) := by rw [hM2]; exact asc_set hA _ _ _
 unfold swapL
 rw [← hM2, ← hM3, ← hl3]
 have HHa : Hid (∀ v, Below w1.heap.size w1 v → Calls Tryz.prog 79 #[.pointer (some ⟨s.srb, 0, none⟩), slV o i] v fun e w' => e = .returned (.bool true) ∧ Below v.heap.size v w') := hid (fun v hv => by have := rhas (HE.out v hv) hA hl o i; rw [decide_eq_true hga] at this; exact this)
 have HHb : Hid (∀ v, Below w1.heap.size w1 v → Calls Tryz.prog 79 #[.pointer (some ⟨s.srb, 0, none⟩), slV p j] v fun e w' => e = .returned (.bool true) ∧ Below v.heap.size v w') := hid (fun v hv => by have := rhas (HE.out v hv) hA hl p j; rw [decide_eq_true hgb] at this; exact this)
 have HCa : Hid (∀ v, Below w1.heap.size w1 v → Calls Tryz.prog 81 #[.pointer (some ⟨rhb, 0, none⟩), slV o i] v fun e w' => e = .returned ((gt M o i).V) ∧ Below v.heap.size v w') := hid (fun v hv => rcap (HE.out v hv) hA hl o i)
 have HCb : Hid (∀ v, Below w1.heap.size w1 v → Calls Tryz.prog 81 #[.pointer (some ⟨rhb, 0, none⟩), slV p j] v fun e w' => e = .returned ((gt M p j).V) ∧ Below v.heap.size v w') := hid (fun v hv => rcap (HE.out v hv) hA hl p j)
 have HS2 : Hid (∀ v T, Hd W s hb rhb n L M l l2 T v → Calls Tryz.prog 82 #[.pointer (some ⟨s.srb, 0, none⟩), slV o i, (gt M p j).V] v fun e w' => e = .returned (.int .i64 n2) ∧ Hd W s hb rhb n L M2 l l2 T w' ∧ SameK T v w') := hid (fun v T hv => by rw [hM2, hn2]; exact hv.act (fun K hK => hK.rset hA hl o i _))
 have HS3 : Hid (∀ v T, Hd W s hb rhb n L M2 l l2 T v → Calls Tryz.prog 82 #[.pointer (some ⟨s.srb, 0, none⟩), slV p j, (gt M o i).V] v fun e w' => e = .returned (.int .i64 n3) ∧ Hd W s hb rhb n L M3 l l2 T w' ∧ SameK T v w') := hid (fun v T hv => by rw [hM3, hn3]; exact hv.act (fun K hK => hK.rset hA2 hl2 p j _))
 have HSW : Hid (∀ v T, Hd W s hb rhb n L M3 l l2 T v → Calls Tryz.prog 92 #[.pointer (some ⟨s.trb, 0, none⟩), slV o i, slV p j] v fun e w' => e = .returned (.tuple #[]) ∧ Hd W s hb rhb n L M3 l l3 T w' ∧ SameK T v w') := hid (fun v T hv => by rw [hl3]; exact hv.act (fun K hK => hK.rswap o i p j hO))
 have HW := hid hw1
 generalize gt M o i = t at *
 obtain ⟨ta, tb, tx, td, te, tf, tg, th⟩ := t
 generalize gt M p j = u at *
 obtain ⟨ua, ub, ux, ud, ue, uf, ug, uh⟩ := u
 simp only [TabS.Cp.V] at HCa HCb
 have hfdt : ∀ w : World, (Instr.field 33 (.agg #[.int .i64 ta, .int .i64 tb, .int .i64 tx, .int .u64 td, .int .i64 te, .int .i64 tf, .int .i64 tg, .int .i64 th]) 0).run Tryz.prog w = .ok (.int .i64 ta) w := fun _ => by kernel_rfl
 have hfdu : ∀ w : World, (Instr.field 33 (.agg #[.int .i64 ua, .int .i64 ub, .int .i64 ux, .int .u64 ud, .int .i64 ue, .int .i64 uf, .int .i64 ug, .int .i64 uh]) 0).run Tryz.prog w = .ok (.int .i64 ua) w := fun _ => by kernel_rfl
 clear h hw1 hb1 hs1 ht1 hA hl
 clear hga hgb hM2 hM3 hl3 hn2 hn3 hl2 hA2 hO
 go_enter Tryz.func43, Tryz.ntmps43
 go_upto_region 1 with fail
 rw [show ((w.alloc (slO o i)).alloc (slO p j)) = w1 from HW.out.symm]
 have RP1 := hid (fun v (hv : KeptQ w1.heap.size w1 v) => (HE.out v (HV1.out.trans (hv.1.mono HV1.out.size))).rc.1)
 have RA1 := hid (fun v (hv : KeptQ w1.heap.size w1 v) => ldS (((HV1.out.trans (hv.1.mono HV1.out.size)).block _ (ags HXA.out).1).trans HXA.out))
 have RB1 := hid (fun v (hv : KeptQ w1.heap.size w1 v) => ldS (((HV1.out.trans (hv.1.mono HV1.out.size)).block _ (ags HXB.out).1).trans HXB.out))
 have RF10 := hid (fun v (hv : KeptQ w1.heap.size w1 v) => HHa.out v (HV1.out.trans (hv.1.mono HV1.out.size)))
 have RF11 := hid (fun v (hv : KeptQ w1.heap.size w1 v) => HHb.out v (HV1.out.trans (hv.1.mono HV1.out.size)))
 refine wp_region_keptQ w1.heap.size w1 (by kernel_rfl) (by kernel_rfl) (KeptQ.refl (Nat.le_refl _)) ?_
 repeat (first
  | go_big_quiet_skip
  | (go_big_quiet_want; first
   | (refine quietQ_load_cell 68 _ rfl ⟨rhb, 0, none⟩ rfl _ RP1.out _ Tryz.underlying68 rfl ?_; simp only [Act.put, List.setIfInBounds_toArray, List.set_cons_zero, List.set_cons_succ]; go_big_quiet_on)
   | (refine quietV 30 _ rfl ⟨w.heap.size, 0, none⟩ rfl _ RA1.out ?_; simp only [Act.put, List.setIfInBounds_toArray, List.set_cons_zero, List.set_cons_succ]; go_big_quiet_on)
   | (refine quietV 30 _ rfl ⟨w.heap.size + 1, 0, none⟩ rfl _ RB1.out ?_; simp only [Act.put, List.setIfInBounds_toArray, List.set_cons_zero, List.set_cons_succ]; go_big_quiet_on)
   | (go_big_quiet_op; first
    | go_big_quiet_on
    | (refine ⟨_, fun _ _ => rfl, ?_⟩; go_big_quiet_on)
    | go_big_quiet_call ((intro hw; first
     | (go_at_call 79; (with_reducible refine (RF10.out _ hw).mono ?_); rintro e w7 ⟨rfl, hb7⟩; exact ⟨rfl, hw.call hb7⟩)
     | (go_at_call 79; (with_reducible refine (RF11.out _ hw).mono ?_); rintro e w7 ⟨rfl, hb7⟩; exact ⟨rfl, hw.call hb7⟩))))))
 refine wpQuiet_nil ?_
 intro w2 hq1
 have HV2 := hid (HV1.out.trans (hq1.1.mono HV1.out.size))
 clear hq1 RP1 RA1 RB1 RF10 RF11
 go_upto_region 3 with fail
 have HZ2 := hid (show w1.heap.size ≤ w2.heap.size from HV2.out.size)
 have KS : Hid (∀ v, Below w2.heap.size w2 v → v.cell? ⟨w.heap.size, 0, none⟩ = some (.int .i64 o) ∧ v.cell? ⟨w.heap.size, 1, none⟩ = some (.int .i64 i) ∧ v.cell? ⟨w.heap.size + 1, 0, none⟩ = some (.int .i64 p) ∧ v.cell? ⟨w.heap.size + 1, 1, none⟩ = some (.int .i64 j)) := hid (fun v hv => ⟨(slot_cells ((hv.block _ (Nat.lt_of_lt_of_le (ags HXA.out).1 HZ2.out)).trans (((HV2.out).block _ (ags HXA.out).1).trans HXA.out))).1, (slot_cells ((hv.block _ (Nat.lt_of_lt_of_le (ags HXA.out).1 HZ2.out)).trans (((HV2.out).block _ (ags HXA.out).1).trans HXA.out))).2, (slot_cells ((hv.block _ (Nat.lt_of_lt_of_le (ags HXB.out).1 HZ2.out)).trans (((HV2.out).block _ (ags HXB.out).1).trans HXB.out))).1, (slot_cells ((hv.block _ (Nat.lt_of_lt_of_le (ags HXB.out).1 HZ2.out)).trans (((HV2.out).block _ (ags HXB.out).1).trans HXB.out))).2⟩)
 have HCa2 : Hid (∀ v, Below w2.heap.size w2 v → Calls Tryz.prog 81 #[.pointer (some ⟨rhb, 0, none⟩), slV o i] v fun e w' => e = .returned (.agg #[.int .i64 ta, .int .i64 tb, .int .i64 tx, .int .u64 td, .int .i64 te, .int .i64 tf, .int .i64 tg, .int .i64 th]) ∧ Below v.heap.size v w') := hid (fun v hv => HCa.out v (HV2.out.trans (hv.mono HV2.out.size)))
 have HCb2 : Hid (∀ v, Below w2.heap.size w2 v → Calls Tryz.prog 81 #[.pointer (some ⟨rhb, 0, none⟩), slV p j] v fun e w' => e = .returned (.agg #[.int .i64 ua, .int .i64 ub, .int .i64 ux, .int .u64 ud, .int .i64 ue, .int .i64 uf, .int .i64 ug, .int .i64 uh]) ∧ Below v.heap.size v w') := hid (fun v hv => HCb.out v (HV2.out.trans (hv.mono HV2.out.size)))
 clear hfdt hfdu
 go_cut [7, 8] from 9 to 51 (fun x y wc => ∃ xB yB : Nat, x = .pointer (some ⟨xB, 0, none⟩) ∧ y = .pointer (some ⟨yB, 0, none⟩) ∧ Hid (Below w2.heap.size w2 wc ∧ w2.heap.size ≤ xB ∧ xB < wc.heap.size ∧ w2.heap.size ≤ yB ∧ yB < wc.heap.size) ∧ Hid (wc.cell? ⟨xB, 0, none⟩ = some (.int .i64 ta) ∧ wc.cell? ⟨xB, 1, none⟩ = some (.int .i64 tb) ∧ wc.cell? ⟨xB, 2, none⟩ = some (.int .i64 tx) ∧ wc.cell? ⟨xB, 3, none⟩ = some (.int .u64 td) ∧ wc.cell? ⟨xB, 4, none⟩ = some (.int .i64 te) ∧ wc.cell? ⟨xB, 5, none⟩ = some (.int .i64 tf) ∧ wc.cell? ⟨xB, 6, none⟩ = some (.int .i64 tg) ∧ wc.cell? ⟨xB, 7, none⟩ = some (.int .i64 th)) ∧ Hid (wc.cell? ⟨yB, 0, none⟩ = some (.int .i64 ua) ∧ wc.cell? ⟨yB, 1, none⟩ = some (.int .i64 ub) ∧ wc.cell? ⟨yB, 2, none⟩ = some (.int .i64 ux) ∧ wc.cell? ⟨yB, 3, none⟩ = some (.int .u64 ud) ∧ wc.cell? ⟨yB, 4, none⟩ = some (.int .i64 ue) ∧ wc.cell? ⟨yB, 5, none⟩ = some (.int .i64 uf) ∧ wc.cell? ⟨yB, 6, none⟩ = some (.int .i64 ug) ∧ wc.cell? ⟨yB, 7, none⟩ = some (.int .i64 uh)))
 case first =>
  go_region_held3 (fun v => v.cell? ⟨w.heap.size, 0, none⟩ = some (.int .i64 o) ∧ v.cell? ⟨w.heap.size, 1, none⟩ = some (.int .i64 i) ∧ v.cell? ⟨w.heap.size + 1, 0, none⟩ = some (.int .i64 p) ∧ v.cell? ⟨w.heap.size + 1, 1, none⟩ = some (.int .i64 j))
   (first | ((with_reducible refine KS.out _ ?_); (repeat (first | (with_reducible exact HB5.out) | (with_reducible exact HB6.out) | (with_reducible exact Below.refl _ _) | (with_reducible refine Below.drew ?_) | (with_reducible refine bal ?_ _) | (with_reducible refine Below.setCell ?_ (by first | (simp; done) | (simp; omega)) _)))))
   (first
    | (go_at_call 81; (with_reducible refine (HCa2.out _ (by (repeat (first | (with_reducible exact HB5.out) | (with_reducible exact HB6.out) | (with_reducible exact Below.refl _ _) | (with_reducible refine Below.drew ?_) | (with_reducible refine bal ?_ _) | (with_reducible refine Below.setCell ?_ (by first | (simp; done) | (simp; omega)) _))))).mono ?_); rintro e w5 ⟨rfl, hb5⟩; have HB5 := hid (bgo (a := w2) (by (repeat (first | (with_reducible exact HB5.out) | (with_reducible exact HB6.out) | (with_reducible exact Below.refl _ _) | (with_reducible refine Below.drew ?_) | (with_reducible refine bal ?_ _) | (with_reducible refine Below.setCell ?_ (by first | (simp; done) | (simp; omega)) _)))) hb5); obtain ⟨hc5, hf5⟩ := bcell hb5; have hz5 := hb5.size; (try simp at hz5); (try (have hy5 : w2.heap.size < w5.heap.size := by omega)); (try (have hx5 : w2.heap.size + 1 < w5.heap.size := by omega)); (try (have hv : w5.heap.size < w6.heap.size := by omega)); (try (have hu : w5.heap.size + 1 < w6.heap.size := by omega)); clear hb5)
    | (go_at_call 81; (with_reducible refine (HCb2.out _ (by (repeat (first | (with_reducible exact HB5.out) | (with_reducible exact HB6.out) | (with_reducible exact Below.refl _ _) | (with_reducible refine Below.drew ?_) | (with_reducible refine bal ?_ _) | (with_reducible refine Below.setCell ?_ (by first | (simp; done) | (simp; omega)) _))))).mono ?_); rintro e w6 ⟨rfl, hb6⟩; have HB6 := hid (bgo (a := w2) (by (repeat (first | (with_reducible exact HB5.out) | (with_reducible exact HB6.out) | (with_reducible exact Below.refl _ _) | (with_reducible refine Below.drew ?_) | (with_reducible refine bal ?_ _) | (with_reducible refine Below.setCell ?_ (by first | (simp; done) | (simp; omega)) _)))) hb6); obtain ⟨hc6, hf6⟩ := bcell hb6; have hz6 := hb6.size; (try simp at hz6); (try (have hy6 : w2.heap.size < w6.heap.size := by omega)); (try (have hx6 : w2.heap.size + 1 < w6.heap.size := by omega)); (try (have hv : w5.heap.size < w6.heap.size := by omega)); (try (have hu : w5.heap.size + 1 < w6.heap.size := by omega)); clear hb6)
   )
  all_goals
   go_wp2_with fail
   go_meet
   refine ⟨_, _, rfl, rfl, hid ⟨?_, (by first | (simp; done) | (simp; omega) | omega), (by first | (simp; done) | (simp; omega) | omega), (by first | (simp; done) | (simp; omega) | omega), (by first | (simp; done) | (simp; omega) | omega)⟩, hid ⟨?_, ?_, ?_, ?_, ?_, ?_, ?_, ?_⟩, hid ⟨?_, ?_, ?_, ?_, ?_, ?_, ?_, ?_⟩⟩
   ·(repeat (first | (with_reducible exact HB5.out) | (with_reducible exact HB6.out) | (with_reducible exact Below.refl _ _) | (with_reducible refine Below.drew ?_) | (with_reducible refine bal ?_ _) | (with_reducible refine Below.setCell ?_ (by first | (simp; done) | (simp; omega)) _)))
   all_goals (try go_simp)
   all_goals first | (refine cset (x := .int .i64 0) ?_; go_simp; done) | (refine cset (x := .int .u64 0) ?_; go_simp; done)
 case rest =>
  obtain ⟨xB, yB, rfl, rfl, HBc, HXt, HYu⟩ := hcut
  clear KS HCa2 HCb2
  have HV3 := hid (HV2.out.trans (HBc.out.1.mono HV2.out.size))
  have BFA0 := hid (((HV3.out).block _ (ags HXA.out).1).trans HXA.out)
  have BFB0 := hid (((HV3.out).block _ (ags HXB.out).1).trans HXB.out)
  have HBW := hid (HB1.out.trans (HV3.out.mono HB1.out.size))
  have HT0 := hid (HH.out.fresh HBW.out)
  have HNA : Hid (New w wc (w.heap.size)) := hid ⟨by omega, (ags BFA0.out).1⟩
  have HNB : Hid (New w wc (w.heap.size + 1)) := hid ⟨by omega, (ags BFB0.out).1⟩
  have HNt : Hid (New w wc xB) := hid ⟨Nat.le_trans HB1.out.size (Nat.le_trans HV2.out.size HBc.out.2.1), HBc.out.2.2.1⟩
  have HNu : Hid (New w wc yB) := hid ⟨Nat.le_trans HB1.out.size (Nat.le_trans HV2.out.size HBc.out.2.2.2.1), HBc.out.2.2.2.2⟩
  have HA1 : Hid (wc.cell? ⟨rhb, 0, none⟩ = some (.pointer (some ⟨s.srb, 0, none⟩)) ∧ wc.cell? ⟨w.heap.size, 0, none⟩ = some (.int .i64 o) ∧ wc.cell? ⟨w.heap.size, 1, none⟩ = some (.int .i64 i) ∧ wc.cell? ⟨yB, 0, none⟩ = some (.int .i64 ua) ∧ wc.cell? ⟨yB, 1, none⟩ = some (.int .i64 ub) ∧ wc.cell? ⟨yB, 2, none⟩ = some (.int .i64 ux) ∧ wc.cell? ⟨yB, 3, none⟩ = some (.int .u64 ud) ∧ wc.cell? ⟨yB, 4, none⟩ = some (.int .i64 ue) ∧ wc.cell? ⟨yB, 5, none⟩ = some (.int .i64 uf) ∧ wc.cell? ⟨yB, 6, none⟩ = some (.int .i64 ug) ∧ wc.cell? ⟨yB, 7, none⟩ = some (.int .i64 uh)) := hid ⟨HT0.out.rc.1, (slot_cells BFA0.out).1, (slot_cells BFA0.out).2, HYu.out.1, HYu.out.2.1, HYu.out.2.2.1, HYu.out.2.2.2.1, HYu.out.2.2.2.2.1, HYu.out.2.2.2.2.2.1, HYu.out.2.2.2.2.2.2.1, HYu.out.2.2.2.2.2.2.2⟩
  have HD1 : Hid (wc.drew.cell? ⟨rhb, 0, none⟩ = some (.pointer (some ⟨s.srb, 0, none⟩)) ∧ wc.drew.cell? ⟨w.heap.size, 0, none⟩ = some (.int .i64 o) ∧ wc.drew.cell? ⟨w.heap.size, 1, none⟩ = some (.int .i64 i) ∧ wc.drew.cell? ⟨yB, 0, none⟩ = some (.int .i64 ua) ∧ wc.drew.cell? ⟨yB, 1, none⟩ = some (.int .i64 ub) ∧ wc.drew.cell? ⟨yB, 2, none⟩ = some (.int .i64 ux) ∧ wc.drew.cell? ⟨yB, 3, none⟩ = some (.int .u64 ud) ∧ wc.drew.cell? ⟨yB, 4, none⟩ = some (.int .i64 ue) ∧ wc.drew.cell? ⟨yB, 5, none⟩ = some (.int .i64 uf) ∧ wc.drew.cell? ⟨yB, 6, none⟩ = some (.int .i64 ug) ∧ wc.drew.cell? ⟨yB, 7, none⟩ = some (.int .i64 uh)) := hid HA1.out
  have HE1d := hid (HT0.out.call (show Below wc.heap.size wc wc.drew from (Below.refl _ _).drew))
  have HC1 := hid (HS2.out _ _ HE1d.out)
  go_upto_region 4 with fail
  go_region_held3 (fun w' => w'.cell? ⟨rhb, 0, none⟩ = some (.pointer (some ⟨s.srb, 0, none⟩)) ∧ w'.cell? ⟨w.heap.size, 0, none⟩ = some (.int .i64 o) ∧ w'.cell? ⟨w.heap.size, 1, none⟩ = some (.int .i64 i) ∧ w'.cell? ⟨yB, 0, none⟩ = some (.int .i64 ua) ∧ w'.cell? ⟨yB, 1, none⟩ = some (.int .i64 ub) ∧ w'.cell? ⟨yB, 2, none⟩ = some (.int .i64 ux) ∧ w'.cell? ⟨yB, 3, none⟩ = some (.int .u64 ud) ∧ w'.cell? ⟨yB, 4, none⟩ = some (.int .i64 ue) ∧ w'.cell? ⟨yB, 5, none⟩ = some (.int .i64 uf) ∧ w'.cell? ⟨yB, 6, none⟩ = some (.int .i64 ug) ∧ w'.cell? ⟨yB, 7, none⟩ = some (.int .i64 uh))
   (first | (with_reducible exact HA1.out) | (with_reducible exact HD1.out) | (with_reducible exact HF1.out))
   (first | (go_at_call 82; (with_reducible refine HC1.out.mono ?_); rintro e a1 ⟨rfl, hh, hk⟩; have HH1 := hid hh; have bfA := (hk _ (.inr HNA.out)).trans BFA0.out; have BFA1 := hid bfA; have bfB := (hk _ (.inr HNB.out)).trans BFB0.out; have BFB1 := hid bfB; have bft := keep8 (hk _ (.inr HNt.out)) HXt.out; have BFt1 := hid bft; have bfu := keep8 (hk _ (.inr HNu.out)) HYu.out; have BFu1 := hid bfu; have HK1 := hid hk; have HF1 : Hid (a1.cell? ⟨rhb, 0, none⟩ = some (.pointer (some ⟨s.srb, 0, none⟩)) ∧ a1.cell? ⟨w.heap.size, 0, none⟩ = some (.int .i64 o) ∧ a1.cell? ⟨w.heap.size, 1, none⟩ = some (.int .i64 i) ∧ a1.cell? ⟨yB, 0, none⟩ = some (.int .i64 ua) ∧ a1.cell? ⟨yB, 1, none⟩ = some (.int .i64 ub) ∧ a1.cell? ⟨yB, 2, none⟩ = some (.int .i64 ux) ∧ a1.cell? ⟨yB, 3, none⟩ = some (.int .u64 ud) ∧ a1.cell? ⟨yB, 4, none⟩ = some (.int .i64 ue) ∧ a1.cell? ⟨yB, 5, none⟩ = some (.int .i64 uf) ∧ a1.cell? ⟨yB, 6, none⟩ = some (.int .i64 ug) ∧ a1.cell? ⟨yB, 7, none⟩ = some (.int .i64 uh)) := hid ⟨hh.rc.1, (slot_cells bfA).1, (slot_cells bfA).2, bfu.1, bfu.2.1, bfu.2.2.1, bfu.2.2.2.1, bfu.2.2.2.2.1, bfu.2.2.2.2.2.1, bfu.2.2.2.2.2.2.1, bfu.2.2.2.2.2.2.2⟩; clear hh hk bfA bfB bft bfu))
  have HA2 : Hid (a1.cell? ⟨rhb, 0, none⟩ = some (.pointer (some ⟨s.srb, 0, none⟩)) ∧ a1.cell? ⟨w.heap.size + 1, 0, none⟩ = some (.int .i64 p) ∧ a1.cell? ⟨w.heap.size + 1, 1, none⟩ = some (.int .i64 j) ∧ a1.cell? ⟨xB, 0, none⟩ = some (.int .i64 ta) ∧ a1.cell? ⟨xB, 1, none⟩ = some (.int .i64 tb) ∧ a1.cell? ⟨xB, 2, none⟩ = some (.int .i64 tx) ∧ a1.cell? ⟨xB, 3, none⟩ = some (.int .u64 td) ∧ a1.cell? ⟨xB, 4, none⟩ = some (.int .i64 te) ∧ a1.cell? ⟨xB, 5, none⟩ = some (.int .i64 tf) ∧ a1.cell? ⟨xB, 6, none⟩ = some (.int .i64 tg) ∧ a1.cell? ⟨xB, 7, none⟩ = some (.int .i64 th)) := hid ⟨HH1.out.rc.1, (slot_cells BFB1.out).1, (slot_cells BFB1.out).2, BFt1.out.1, BFt1.out.2.1, BFt1.out.2.2.1, BFt1.out.2.2.2.1, BFt1.out.2.2.2.2.1, BFt1.out.2.2.2.2.2.1, BFt1.out.2.2.2.2.2.2.1, BFt1.out.2.2.2.2.2.2.2⟩
  have HD2 : Hid (a1.drew.cell? ⟨rhb, 0, none⟩ = some (.pointer (some ⟨s.srb, 0, none⟩)) ∧ a1.drew.cell? ⟨w.heap.size + 1, 0, none⟩ = some (.int .i64 p) ∧ a1.drew.cell? ⟨w.heap.size + 1, 1, none⟩ = some (.int .i64 j) ∧ a1.drew.cell? ⟨xB, 0, none⟩ = some (.int .i64 ta) ∧ a1.drew.cell? ⟨xB, 1, none⟩ = some (.int .i64 tb) ∧ a1.drew.cell? ⟨xB, 2, none⟩ = some (.int .i64 tx) ∧ a1.drew.cell? ⟨xB, 3, none⟩ = some (.int .u64 td) ∧ a1.drew.cell? ⟨xB, 4, none⟩ = some (.int .i64 te) ∧ a1.drew.cell? ⟨xB, 5, none⟩ = some (.int .i64 tf) ∧ a1.drew.cell? ⟨xB, 6, none⟩ = some (.int .i64 tg) ∧ a1.drew.cell? ⟨xB, 7, none⟩ = some (.int .i64 th)) := hid HA2.out
  have HE2d := hid (HH1.out.call (show Below a1.heap.size a1 a1.drew from (Below.refl _ _).drew))
  have HC2 := hid (HS3.out _ _ HE2d.out)
  go_upto_region 5 with fail
  go_region_held3 (fun w' => w'.cell? ⟨rhb, 0, none⟩ = some (.pointer (some ⟨s.srb, 0, none⟩)) ∧ w'.cell? ⟨w.heap.size + 1, 0, none⟩ = some (.int .i64 p) ∧ w'.cell? ⟨w.heap.size + 1, 1, none⟩ = some (.int .i64 j) ∧ w'.cell? ⟨xB, 0, none⟩ = some (.int .i64 ta) ∧ w'.cell? ⟨xB, 1, none⟩ = some (.int .i64 tb) ∧ w'.cell? ⟨xB, 2, none⟩ = some (.int .i64 tx) ∧ w'.cell? ⟨xB, 3, none⟩ = some (.int .u64 td) ∧ w'.cell? ⟨xB, 4, none⟩ = some (.int .i64 te) ∧ w'.cell? ⟨xB, 5, none⟩ = some (.int .i64 tf) ∧ w'.cell? ⟨xB, 6, none⟩ = some (.int .i64 tg) ∧ w'.cell? ⟨xB, 7, none⟩ = some (.int .i64 th))
   (first | (with_reducible exact HA2.out) | (with_reducible exact HD2.out) | (with_reducible exact HF2.out))
   (first | (go_at_call 82; (with_reducible refine HC2.out.mono ?_); rintro e a2 ⟨rfl, hh, hk⟩; have HH2 := hid hh; have bfA := (hk _ (.inr HNA.out)).trans BFA1.out; have BFA2 := hid bfA; have bfB := (hk _ (.inr HNB.out)).trans BFB1.out; have BFB2 := hid bfB; have bft := keep8 (hk _ (.inr HNt.out)) BFt1.out; have BFt2 := hid bft; have bfu := keep8 (hk _ (.inr HNu.out)) BFu1.out; have BFu2 := hid bfu; have HK2 := hid hk; have HF2 : Hid (a2.cell? ⟨rhb, 0, none⟩ = some (.pointer (some ⟨s.srb, 0, none⟩)) ∧ a2.cell? ⟨w.heap.size + 1, 0, none⟩ = some (.int .i64 p) ∧ a2.cell? ⟨w.heap.size + 1, 1, none⟩ = some (.int .i64 j) ∧ a2.cell? ⟨xB, 0, none⟩ = some (.int .i64 ta) ∧ a2.cell? ⟨xB, 1, none⟩ = some (.int .i64 tb) ∧ a2.cell? ⟨xB, 2, none⟩ = some (.int .i64 tx) ∧ a2.cell? ⟨xB, 3, none⟩ = some (.int .u64 td) ∧ a2.cell? ⟨xB, 4, none⟩ = some (.int .i64 te) ∧ a2.cell? ⟨xB, 5, none⟩ = some (.int .i64 tf) ∧ a2.cell? ⟨xB, 6, none⟩ = some (.int .i64 tg) ∧ a2.cell? ⟨xB, 7, none⟩ = some (.int .i64 th)) := hid ⟨hh.rc.1, (slot_cells bfB).1, (slot_cells bfB).2, bft.1, bft.2.1, bft.2.2.1, bft.2.2.2.1, bft.2.2.2.2.1, bft.2.2.2.2.2.1, bft.2.2.2.2.2.2.1, bft.2.2.2.2.2.2.2⟩; clear hh hk bfA bfB bft bfu))
  have HA3 : Hid (a2.cell? ⟨rhb, 1, none⟩ = some (.pointer (some ⟨s.trb, 0, none⟩)) ∧ a2.cell? ⟨w.heap.size, 0, none⟩ = some (.int .i64 o) ∧ a2.cell? ⟨w.heap.size, 1, none⟩ = some (.int .i64 i) ∧ a2.cell? ⟨w.heap.size + 1, 0, none⟩ = some (.int .i64 p) ∧ a2.cell? ⟨w.heap.size + 1, 1, none⟩ = some (.int .i64 j)) := hid ⟨HH2.out.rc.2.1, (slot_cells BFA2.out).1, (slot_cells BFA2.out).2, (slot_cells BFB2.out).1, (slot_cells BFB2.out).2⟩
  have HD3 : Hid (a2.drew.cell? ⟨rhb, 1, none⟩ = some (.pointer (some ⟨s.trb, 0, none⟩)) ∧ a2.drew.cell? ⟨w.heap.size, 0, none⟩ = some (.int .i64 o) ∧ a2.drew.cell? ⟨w.heap.size, 1, none⟩ = some (.int .i64 i) ∧ a2.drew.cell? ⟨w.heap.size + 1, 0, none⟩ = some (.int .i64 p) ∧ a2.drew.cell? ⟨w.heap.size + 1, 1, none⟩ = some (.int .i64 j)) := hid HA3.out
  have HE3d := hid (HH2.out.call (show Below a2.heap.size a2 a2.drew from (Below.refl _ _).drew))
  have HC3 := hid (HSW.out _ _ HE3d.out)
  go_upto_region 6 with fail
  go_region_held3 (fun w' => w'.cell? ⟨rhb, 1, none⟩ = some (.pointer (some ⟨s.trb, 0, none⟩)) ∧ w'.cell? ⟨w.heap.size, 0, none⟩ = some (.int .i64 o) ∧ w'.cell? ⟨w.heap.size, 1, none⟩ = some (.int .i64 i) ∧ w'.cell? ⟨w.heap.size + 1, 0, none⟩ = some (.int .i64 p) ∧ w'.cell? ⟨w.heap.size + 1, 1, none⟩ = some (.int .i64 j))
   (first | (with_reducible exact HA3.out) | (with_reducible exact HD3.out) | (with_reducible exact HF3.out))
   (first | (go_at_call 92; (with_reducible refine HC3.out.mono ?_); rintro e a3 ⟨rfl, hh, hk⟩; have HH3 := hid hh; have bfA := (hk _ (.inr HNA.out)).trans BFA2.out; have BFA3 := hid bfA; have bfB := (hk _ (.inr HNB.out)).trans BFB2.out; have BFB3 := hid bfB; have bft := keep8 (hk _ (.inr HNt.out)) BFt2.out; have BFt3 := hid bft; have bfu := keep8 (hk _ (.inr HNu.out)) BFu2.out; have BFu3 := hid bfu; have HK3 := hid hk; have HF3 : Hid (a3.cell? ⟨rhb, 1, none⟩ = some (.pointer (some ⟨s.trb, 0, none⟩)) ∧ a3.cell? ⟨w.heap.size, 0, none⟩ = some (.int .i64 o) ∧ a3.cell? ⟨w.heap.size, 1, none⟩ = some (.int .i64 i) ∧ a3.cell? ⟨w.heap.size + 1, 0, none⟩ = some (.int .i64 p) ∧ a3.cell? ⟨w.heap.size + 1, 1, none⟩ = some (.int .i64 j)) := hid ⟨hh.rc.2.1, (slot_cells bfA).1, (slot_cells bfA).2, (slot_cells bfB).1, (slot_cells bfB).2⟩; clear hh hk bfA bfB bft bfu))
  all_goals
   go_wp2
   go_ret
   exact ⟨rfl, HH3.out.weak (fun k q => .inl q), fun k q => (HK3.out k (.inl q)).trans ((HK2.out k (.inl q)).trans ((HK1.out k (.inl q)).trans (HBW.out.block k (HH.out.lt q))))⟩
end HdS
end
end Go.Proofs.YtchjfeafkmpmbaaGreatDoor
