import Derived.Test.YtchjfeafkmpmbaaGreatDoorQkp
import Derived.RangeFuncNested
import Derived.Sort.CutIn
namespace Go.Proofs.YtchjfeafkmpmbaaGreatDoor
set_option linter.unusedVariables false
set_option linter.unusedSimpArgs false
set_option maxRecDepth 100000
set_option maxHeartbeats 8000000
open Lib (hid)
open Go.ChangeShapes Go.WideShapes Go.ChangeAt Go.RowKit Go.Shelf
section
namespace HdS
open TabS (Cp Sn zC mayC sizS getR getN Two Pr FootP foot_ltP foot_ltR SameS AddRel addSR setN setM rowsS hasS dropSR dropSL heldA hdsC)
variable {W w w' : World} {s : Sh} {hb rhb n n' : Nat} {L M L' M' : List Sn} {l l2 l' l2' : List Nod} {S : Nat → Prop}
theorem keep8 {w w' : World} {k : Nat} {v0 v1 v2 v3 v4 v5 v6 v7 : Value} (h : w'.heap[k]? = w.heap[k]?) (hc : w.cell? ⟨k, 0, none⟩ = some v0 ∧ w.cell? ⟨k, 1, none⟩ = some v1 ∧ w.cell? ⟨k, 2, none⟩ = some v2 ∧ w.cell? ⟨k, 3, none⟩ = some v3 ∧ w.cell? ⟨k, 4, none⟩ = some v4 ∧ w.cell? ⟨k, 5, none⟩ = some v5 ∧ w.cell? ⟨k, 6, none⟩ = some v6 ∧ w.cell? ⟨k, 7, none⟩ = some v7) : w'.cell? ⟨k, 0, none⟩ = some v0 ∧ w'.cell? ⟨k, 1, none⟩ = some v1 ∧ w'.cell? ⟨k, 2, none⟩ = some v2 ∧ w'.cell? ⟨k, 3, none⟩ = some v3 ∧ w'.cell? ⟨k, 4, none⟩ = some v4 ∧ w'.cell? ⟨k, 5, none⟩ = some v5 ∧ w'.cell? ⟨k, 6, none⟩ = some v6 ∧ w'.cell? ⟨k, 7, none⟩ = some v7 := by
 obtain ⟨c0, c1, c2, c3, c4, c5, c6, c7⟩ := hc
 exact ⟨(World.cell?_of_block (a := ⟨k, 0, none⟩) h).trans c0, (World.cell?_of_block (a := ⟨k, 1, none⟩) h).trans c1, (World.cell?_of_block (a := ⟨k, 2, none⟩) h).trans c2, (World.cell?_of_block (a := ⟨k, 3, none⟩) h).trans c3, (World.cell?_of_block (a := ⟨k, 4, none⟩) h).trans c4, (World.cell?_of_block (a := ⟨k, 5, none⟩) h).trans c5, (World.cell?_of_block (a := ⟨k, 6, none⟩) h).trans c6, (World.cell?_of_block (a := ⟨k, 7, none⟩) h).trans c7⟩
theorem cset {w : World} {k j : Nat} {v x : Value} (h : w.cell? ⟨k, j, none⟩ = some x) : (w.setCell ⟨k, j, none⟩ v).cell? ⟨k, j, none⟩ = some v := by
 obtain ⟨y, hy⟩ : ∃ y, y = x := ⟨_, rfl⟩
 rw [← hy] at h
 go_simp
def rswN : Int := 3
theorem rswap_no (h : Hd W s hb rhb n L M l l2 S w) (hA : Asc (rowsS M)) (hl : M.length < 1000000) (o i p j : Int) (hno : ¬ (gn M o i = 0 ∧ gn M p j = 0)) :
  Calls Tryz.prog 43 #[.pointer (some ⟨rhb, 0, none⟩), slV o i, slV p j] w fun e w' => e = .returned (.int .i64 rswN) ∧ Below w.heap.size w w' := by
 unfold rswN
 obtain ⟨hb1, hs1, ht1⟩ := duo_boxes w o i p j
 obtain ⟨w1, hw1⟩ : ∃ y, y = (w.alloc (slO o i)).alloc (slO p j) := ⟨_, rfl⟩
 rw [← hw1] at hb1 hs1 ht1
 have HB1 := hid hb1
 have HV1 := hid (Below.refl w1.heap.size w1)
 have HH := hid h
 have HXA := hid hs1
 have HXB := hid ht1
 have HE : Hid (∀ v, Below w1.heap.size w1 v → Hd W s hb rhb n L M l l2 S v) := hid (fun v hv => (h.call hb1).call hv)
 by_cases hga : gn M o i = 0
 ·have hgb : gn M p j ≠ 0 := fun e => hno ⟨hga, e⟩
  have HHa : Hid (∀ v, Below w1.heap.size w1 v → Calls Tryz.prog 79 #[.pointer (some ⟨s.srb, 0, none⟩), slV o i] v fun e w' => e = .returned (.bool true) ∧ Below v.heap.size v w') := hid (fun v hv => by have := rhas (HE.out v hv) hA hl o i; rw [decide_eq_true hga] at this; exact this)
  have HHb : Hid (∀ v, Below w1.heap.size w1 v → Calls Tryz.prog 79 #[.pointer (some ⟨s.srb, 0, none⟩), slV p j] v fun e w' => e = .returned (.bool false) ∧ Below v.heap.size v w') := hid (fun v hv => by have := rhas (HE.out v hv) hA hl p j; rw [decide_eq_false hgb] at this; exact this)
  have HW := hid hw1
  clear h hw1 hb1 hs1 ht1 hA hl
  clear hga hgb hno
  go_enter Tryz.func43, Tryz.ntmps43
  go_upto_region 1 with fail
  rw [show ((w.alloc (slO o i)).alloc (slO p j)) = w1 from HW.out.symm]
  have RP1 := hid (fun v (hv : KeptQ w1.heap.size w1 v) => (HE.out v (HV1.out.trans (hv.1.mono HV1.out.size))).rc.1)
  have RA1 := hid (fun v (hv : KeptQ w1.heap.size w1 v) => ldS (((HV1.out.trans (hv.1.mono HV1.out.size)).block _ (ags HXA.out).1).trans HXA.out))
  have RB1 := hid (fun v (hv : KeptQ w1.heap.size w1 v) => ldS (((HV1.out.trans (hv.1.mono HV1.out.size)).block _ (ags HXB.out).1).trans HXB.out))
  have RF10 := hid (fun v (hv : KeptQ w1.heap.size w1 v) => HHa.out v (HV1.out.trans (hv.1.mono HV1.out.size)))
  have RF11 := hid (fun v (hv : KeptQ w1.heap.size w1 v) => HHb.out v (HV1.out.trans (hv.1.mono HV1.out.size)))
  refine wp_region_keptQ w1.heap.size w1 (by kernel_rfl) (by kernel_rfl) (KeptQ.refl (Nat.le_refl _)) ?_
  repeat (first
   | go_big_quiet_skip
   | (go_big_quiet_want; first
    | (refine quietQ_load_cell 68 _ rfl ⟨rhb, 0, none⟩ rfl _ RP1.out _ Tryz.underlying68 rfl ?_; simp only [Act.put, List.setIfInBounds_toArray, List.set_cons_zero, List.set_cons_succ]; go_big_quiet_on)
    | (refine quietV 30 _ rfl ⟨w.heap.size, 0, none⟩ rfl _ RA1.out ?_; simp only [Act.put, List.setIfInBounds_toArray, List.set_cons_zero, List.set_cons_succ]; go_big_quiet_on)
    | (refine quietV 30 _ rfl ⟨w.heap.size + 1, 0, none⟩ rfl _ RB1.out ?_; simp only [Act.put, List.setIfInBounds_toArray, List.set_cons_zero, List.set_cons_succ]; go_big_quiet_on)
    | (go_big_quiet_op; first
     | go_big_quiet_on
     | (refine ⟨_, fun _ _ => rfl, ?_⟩; go_big_quiet_on)
     | go_big_quiet_call ((intro hw; first
      | (go_at_call 79; (with_reducible refine (RF10.out _ hw).mono ?_); rintro e w7 ⟨rfl, hb7⟩; exact ⟨rfl, hw.call hb7⟩)
      | (go_at_call 79; (with_reducible refine (RF11.out _ hw).mono ?_); rintro e w7 ⟨rfl, hb7⟩; exact ⟨rfl, hw.call hb7⟩))))))
  refine wpQuiet_nil ?_
  intro w2 hq1
  have HV2 := hid (HV1.out.trans (hq1.1.mono HV1.out.size))
  clear hq1 RP1 RA1 RB1 RF10 RF11
  go_wp2
  go_ret
  exact ⟨rfl, HB1.out.trans (HV2.out.mono HB1.out.size)⟩
 ·clear hno
  have HHa : Hid (∀ v, Below w1.heap.size w1 v → Calls Tryz.prog 79 #[.pointer (some ⟨s.srb, 0, none⟩), slV o i] v fun e w' => e = .returned (.bool false) ∧ Below v.heap.size v w') := hid (fun v hv => by have := rhas (HE.out v hv) hA hl o i; rw [decide_eq_false hga] at this; exact this)
  have HW := hid hw1
  clear h hw1 hb1 hs1 ht1 hA hl
  clear hga
  go_enter Tryz.func43, Tryz.ntmps43
  go_upto_region 1 with fail
  rw [show ((w.alloc (slO o i)).alloc (slO p j)) = w1 from HW.out.symm]
  have RP1 := hid (fun v (hv : KeptQ w1.heap.size w1 v) => (HE.out v (HV1.out.trans (hv.1.mono HV1.out.size))).rc.1)
  have RA1 := hid (fun v (hv : KeptQ w1.heap.size w1 v) => ldS (((HV1.out.trans (hv.1.mono HV1.out.size)).block _ (ags HXA.out).1).trans HXA.out))
  have RB1 := hid (fun v (hv : KeptQ w1.heap.size w1 v) => ldS (((HV1.out.trans (hv.1.mono HV1.out.size)).block _ (ags HXB.out).1).trans HXB.out))
  have RF10 := hid (fun v (hv : KeptQ w1.heap.size w1 v) => HHa.out v (HV1.out.trans (hv.1.mono HV1.out.size)))
  refine wp_region_keptQ w1.heap.size w1 (by kernel_rfl) (by kernel_rfl) (KeptQ.refl (Nat.le_refl _)) ?_
  repeat (first
   | go_big_quiet_skip
   | (go_big_quiet_want; first
    | (refine quietQ_load_cell 68 _ rfl ⟨rhb, 0, none⟩ rfl _ RP1.out _ Tryz.underlying68 rfl ?_; simp only [Act.put, List.setIfInBounds_toArray, List.set_cons_zero, List.set_cons_succ]; go_big_quiet_on)
    | (refine quietV 30 _ rfl ⟨w.heap.size, 0, none⟩ rfl _ RA1.out ?_; simp only [Act.put, List.setIfInBounds_toArray, List.set_cons_zero, List.set_cons_succ]; go_big_quiet_on)
    | (refine quietV 30 _ rfl ⟨w.heap.size + 1, 0, none⟩ rfl _ RB1.out ?_; simp only [Act.put, List.setIfInBounds_toArray, List.set_cons_zero, List.set_cons_succ]; go_big_quiet_on)
    | (go_big_quiet_op; first
     | go_big_quiet_on
     | (refine ⟨_, fun _ _ => rfl, ?_⟩; go_big_quiet_on)
     | go_big_quiet_call ((intro hw; first
      | (go_at_call 79; (with_reducible refine (RF10.out _ hw).mono ?_); rintro e w7 ⟨rfl, hb7⟩; exact ⟨rfl, hw.call hb7⟩))))))
  refine wpQuiet_nil ?_
  intro w2 hq1
  have HV2 := hid (HV1.out.trans (hq1.1.mono HV1.out.size))
  clear hq1 RP1 RA1 RB1 RF10
  go_wp2
  go_ret
  exact ⟨rfl, HB1.out.trans (HV2.out.mono HB1.out.size)⟩
theorem rswap_yes (h : Hd W s hb rhb n L M l l2 S w) (hA : Asc (rowsS M)) (hl : M.length < 1000000) (o i p j : Int) (hO : Once l2) (hon : gn M o i = 0 ∧ gn M p j = 0) :
  Calls Tryz.prog 43 #[.pointer (some ⟨rhb, 0, none⟩), slV o i, slV p j] w fun e w' => e = .returned (.int .i64 0) ∧ Hd W s hb rhb n L (swapL M o i p j) l (swapA l2 o i p j) S w' ∧ SameK S w w' := by
 obtain ⟨hb1, hs1, ht1⟩ := duo_boxes w o i p j
 obtain ⟨w1, hw1⟩ : ∃ y, y = (w.alloc (slO o i)).alloc (slO p j) := ⟨_, rfl⟩
 rw [← hw1] at hb1 hs1 ht1
 have HB1 := hid hb1
 have HV1 := hid (Below.refl w1.heap.size w1)
 have HH := hid h
 have HXA := hid hs1
 have HXB := hid ht1
 have HE : Hid (∀ v, Below w1.heap.size w1 v → Hd W s hb rhb n L M l l2 S v) := hid (fun v hv => (h.call hb1).call hv)
 obtain ⟨hga, hgb⟩ := hon
 obtain ⟨M2, hM2⟩ : ∃ y, y = setM M o i (gt M p j) := ⟨_, rfl⟩
 obtain ⟨M3, hM3⟩ : ∃ y, y = setM M2 p j (gt M o i) := ⟨_, rfl⟩
 obtain ⟨l3, hl3⟩ : ∃ y, y = swapA l2 o i p j := ⟨_, rfl⟩
 obtain ⟨n2, hn2⟩ : ∃ y, y = setN M o i (gt M p j) := ⟨_, rfl⟩
 obtain ⟨n3, hn3⟩ : ∃ y, y = setN M2 p j (gt M o i) := ⟨_, rfl⟩
 have hl2 : M2.length < 1000000 := by rw [hM2, TabS.set_len]; exact hl
 have hA2 : Asc (rowsS M2) := by rw [hM2]; exact asc_set hA _ _ _
 unfold swapL
 rw [← hM2, ← hM3, ← hl3]
 have HHa : Hid (∀ v, Below w1.heap.size w1 v → Calls Tryz.prog 79 #[.pointer (some ⟨s.srb, 0, none⟩), slV o i] v fun e w' => e = .returned (.bool true) ∧ Below v.heap.size v w') := hid (fun v hv => by have := rhas (HE.out v hv) hA hl o i; rw [decide_eq_true hga] at this; exact this)
 have HHb : Hid (∀ v, Below w1.heap.size w1 v → Calls Tryz.prog 79 #[.pointer (some ⟨s.srb, 0, none⟩), slV p j] v fun e w' => e = .returned (.bool true) ∧ Below v.heap.size v w') := hid (fun v hv => by have := rhas (HE.out v hv) hA hl p j; rw [decide_eq_true hgb] at this; exact this)
 have HCa : Hid (∀ v, Below w1.heap.size w1 v → Calls Tryz.prog 81 #[.pointer (some ⟨rhb, 0, none⟩), slV o i] v fun e w' => e = .returned ((gt M o i).V) ∧ Below v.heap.size v w') := hid (fun v hv => rcap (HE.out v hv) hA hl o i)
 have HCb : Hid (∀ v, Below w1.heap.size w1 v → Calls Tryz.prog 81 #[.pointer (some ⟨rhb, 0, none⟩), slV p j] v fun e w' => e = .returned ((gt M p j).V) ∧ Below v.heap.size v w') := hid (fun v hv => rcap (HE.out v hv) hA hl p j)
 have HS2 : Hid (∀ v T, Hd W s hb rhb n L M l l2 T v → Calls Tryz.prog 82 #[.pointer (some ⟨s.srb, 0, none⟩), slV o i, (gt M p j).V] v fun e w' => e = .returned (.int .i64 n2) ∧ Hd W s hb rhb n L M2 l l2 T w' ∧ SameK T v w') := hid (fun v T hv => by rw [hM2, hn2]; exact hv.act (fun K hK => hK.rset hA hl o i _))
 have HS3 : Hid (∀ v T, Hd W s hb rhb n L M2 l l2 T v → Calls Tryz.prog 82 #[.pointer (some ⟨s.srb, 0, none⟩), slV p j, (gt M o i).V] v fun e w' => e = .returned (.int .i64 n3) ∧ Hd W s hb rhb n L M3 l l2 T w' ∧ SameK T v w') := hid (fun v T hv => by rw [hM3, hn3]; exact hv.act (fun K hK => hK.rset hA2 hl2 p j _))
 have HSW : Hid (∀ v T, Hd W s hb rhb n L M3 l l2 T v → Calls Tryz.prog 92 #[.pointer (some ⟨s.trb, 0, none⟩), slV o i, slV p j] v fun e w' => e = .returned (.tuple #[]) ∧ Hd W s hb rhb n L M3 l l3 T w' ∧ SameK T v w') := hid (fun v T hv => by rw [hl3]; exact hv.act (fun K hK => hK.rswap o i p j hO))
 have HW := hid hw1
 generalize gt M o i = t at *
 obtain ⟨ta, tb, tx, td, te, tf, tg, th⟩ := t
 generalize gt M p j = u at *
 obtain ⟨ua, ub, ux, ud, ue, uf, ug, uh⟩ := u
 simp only [TabS.Cp.V] at HCa HCb
 have hfdt : ∀ w : World, (Instr.field 33 (.agg #[.int .i64 ta, .int .i64 tb, .int .i64 tx, .int .u64 td, .int .i64 te, .int .i64 tf, .int .i64 tg, .int .i64 th]) 0).run Tryz.prog w = .ok (.int .i64 ta) w := fun _ => by kernel_rfl
 have hfdu : ∀ w : World, (Instr.field 33 (.agg #[.int .i64 ua, .int .i64 ub, .int .i64 ux, .int .u64 ud, .int .i64 ue, .int .i64 uf, .int .i64 ug, .int .i64 uh]) 0).run Tryz.prog w = .ok (.int .i64 ua) w := fun _ => by kernel_rfl
 clear h hw1 hb1 hs1 ht1 hA hl
 clear hga hgb hM2 hM3 hl3 hn2 hn3 hl2 hA2 hO
 go_enter Tryz.func43, Tryz.ntmps43
 go_upto_region 1 with fail
 rw [show ((w.alloc (slO o i)).alloc (slO p j)) = w1 from HW.out.symm]
 have RP1 := hid (fun v (hv : KeptQ w1.heap.size w1 v) => (HE.out v (HV1.out.trans (hv.1.mono HV1.out.size))).rc.1)
 have RA1 := hid (fun v (hv : KeptQ w1.heap.size w1 v) => ldS (((HV1.out.trans (hv.1.mono HV1.out.size)).block _ (ags HXA.out).1).trans HXA.out))
 have RB1 := hid (fun v (hv : KeptQ w1.heap.size w1 v) => ldS (((HV1.out.trans (hv.1.mono HV1.out.size)).block _ (ags HXB.out).1).trans HXB.out))
 have RF10 := hid (fun v (hv : KeptQ w1.heap.size w1 v) => HHa.out v (HV1.out.trans (hv.1.mono HV1.out.size)))
 have RF11 := hid (fun v (hv : KeptQ w1.heap.size w1 v) => HHb.out v (HV1.out.trans (hv.1.mono HV1.out.size)))
 refine wp_region_keptQ w1.heap.size w1 (by kernel_rfl) (by kernel_rfl) (KeptQ.refl (Nat.le_refl _)) ?_
 repeat (first
  | go_big_quiet_skip
  | (go_big_quiet_want; first
   | (refine quietQ_load_cell 68 _ rfl ⟨rhb, 0, none⟩ rfl _ RP1.out _ Tryz.underlying68 rfl ?_; simp only [Act.put, List.setIfInBounds_toArray, List.set_cons_zero, List.set_cons_succ]; go_big_quiet_on)
   | (refine quietV 30 _ rfl ⟨w.heap.size, 0, none⟩ rfl _ RA1.out ?_; simp only [Act.put, List.setIfInBounds_toArray, List.set_cons_zero, List.set_cons_succ]; go_big_quiet_on)
   | (refine quietV 30 _ rfl ⟨w.heap.size + 1, 0, none⟩ rfl _ RB1.out ?_; simp only [Act.put, List.setIfInBounds_toArray, List.set_cons_zero, List.set_cons_succ]; go_big_quiet_on)
   | (go_big_quiet_op; first
    | go_big_quiet_on
    | (refine ⟨_, fun _ _ => rfl, ?_⟩; go_big_quiet_on)
    | go_big_quiet_call ((intro hw; first
     | (go_at_call 79; (with_reducible refine (RF10.out _ hw).mono ?_); rintro e w7 ⟨rfl, hb7⟩; exact ⟨rfl, hw.call hb7⟩)
     | (go_at_call 79; (with_reducible refine (RF11.out _ hw).mono ?_); rintro e w7 ⟨rfl, hb7⟩; exact ⟨rfl, hw.call hb7⟩))))))
 refine wpQuiet_nil ?_
 intro w2 hq1
 have HV2 := hid (HV1.out.trans (hq1.1.mono HV1.out.size))
 clear hq1 RP1 RA1 RB1 RF10 RF11
 go_upto_region 3 with fail
 have HZ2 := hid (show w1.heap.size ≤ w2.heap.size from HV2.out.size)
 have KS : Hid (∀ v, Below w2.heap.size w2 v → v.cell? ⟨w.heap.size, 0, none⟩ = some (.int .i64 o) ∧ v.cell? ⟨w.heap.size, 1, none⟩ = some (.int .i64 i) ∧ v.cell? ⟨w.heap.size + 1, 0, none⟩ = some (.int .i64 p) ∧ v.cell? ⟨w.heap.size + 1, 1, none⟩ = some (.int .i64 j)) := hid (fun v hv => ⟨(slot_cells ((hv.block _ (Nat.lt_of_lt_of_le (ags HXA.out).1 HZ2.out)).trans (((HV2.out).block _ (ags HXA.out).1).trans HXA.out))).1, (slot_cells ((hv.block _ (Nat.lt_of_lt_of_le (ags HXA.out).1 HZ2.out)).trans (((HV2.out).block _ (ags HXA.out).1).trans HXA.out))).2, (slot_cells ((hv.block _ (Nat.lt_of_lt_of_le (ags HXB.out).1 HZ2.out)).trans (((HV2.out).block _ (ags HXB.out).1).trans HXB.out))).1, (slot_cells ((hv.block _ (Nat.lt_of_lt_of_le (ags HXB.out).1 HZ2.out)).trans (((HV2.out).block _ (ags HXB.out).1).trans HXB.out))).2⟩)
 have HCa2 : Hid (∀ v, Below w2.heap.size w2 v → Calls Tryz.prog 81 #[.pointer (some ⟨rhb, 0, none⟩), slV o i] v fun e w' => e = .returned (.agg #[.int .i64 ta, .int .i64 tb, .int .i64 tx, .int .u64 td, .int .i64 te, .int .i64 tf, .int .i64 tg, .int .i64 th]) ∧ Below v.heap.size v w') := hid (fun v hv => HCa.out v (HV2.out.trans (hv.mono HV2.out.size)))
 have HCb2 : Hid (∀ v, Below w2.heap.size w2 v → Calls Tryz.prog 81 #[.pointer (some ⟨rhb, 0, none⟩), slV p j] v fun e w' => e = .returned (.agg #[.int .i64 ua, .int .i64 ub, .int .i64 ux, .int .u64 ud, .int .i64 ue, .int .i64 uf, .int .i64 ug, .int .i64 uh]) ∧ Below v.heap.size v w') := hid (fun v hv => HCb.out v (HV2.out.trans (hv.mono HV2.out.size)))
 clear hfdt hfdu
 go_cut [7, 8] from 9 to 51 (fun x y wc => ∃ xB yB : Nat, x = .pointer (some ⟨xB, 0, none⟩) ∧ y = .pointer (some ⟨yB, 0, none⟩) ∧ Hid (Below w2.heap.size w2 wc ∧ w2.heap.size ≤ xB ∧ xB < wc.heap.size ∧ w2.heap.size ≤ yB ∧ yB < wc.heap.size) ∧ Hid (wc.cell? ⟨xB, 0, none⟩ = some (.int .i64 ta) ∧ wc.cell? ⟨xB, 1, none⟩ = some (.int .i64 tb) ∧ wc.cell? ⟨xB, 2, none⟩ = some (.int .i64 tx) ∧ wc.cell? ⟨xB, 3, none⟩ = some (.int .u64 td) ∧ wc.cell? ⟨xB, 4, none⟩ = some (.int .i64 te) ∧ wc.cell? ⟨xB, 5, none⟩ = some (.int .i64 tf) ∧ wc.cell? ⟨xB, 6, none⟩ = some (.int .i64 tg) ∧ wc.cell? ⟨xB, 7, none⟩ = some (.int .i64 th)) ∧ Hid (wc.cell? ⟨yB, 0, none⟩ = some (.int .i64 ua) ∧ wc.cell? ⟨yB, 1, none⟩ = some (.int .i64 ub) ∧ wc.cell? ⟨yB, 2, none⟩ = some (.int .i64 ux) ∧ wc.cell? ⟨yB, 3, none⟩ = some (.int .u64 ud) ∧ wc.cell? ⟨yB, 4, none⟩ = some (.int .i64 ue) ∧ wc.cell? ⟨yB, 5, none⟩ = some (.int .i64 uf) ∧ wc.cell? ⟨yB, 6, none⟩ = some (.int .i64 ug) ∧ wc.cell? ⟨yB, 7, none⟩ = some (.int .i64 uh)))
 case first =>
  go_region_held3 (fun v => v.cell? ⟨w.heap.size, 0, none⟩ = some (.int .i64 o) ∧ v.cell? ⟨w.heap.size, 1, none⟩ = some (.int .i64 i) ∧ v.cell? ⟨w.heap.size + 1, 0, none⟩ = some (.int .i64 p) ∧ v.cell? ⟨w.heap.size + 1, 1, none⟩ = some (.int .i64 j))
   (first | ((with_reducible refine KS.out _ ?_); (repeat (first | (with_reducible exact HB5.out) | (with_reducible exact HB6.out) | (with_reducible exact Below.refl _ _) | (with_reducible refine Below.drew ?_) | (with_reducible refine bal ?_ _) | (with_reducible refine Below.setCell ?_ (by first | (simp; done) | (simp; omega)) _)))))
   (first
    | (go_at_call 81; (with_reducible refine (HCa2.out _ (by (repeat (first | (with_reducible exact HB5.out) | (with_reducible exact HB6.out) | (with_reducible exact Below.refl _ _) | (with_reducible refine Below.drew ?_) | (with_reducible refine bal ?_ _) | (with_reducible refine Below.setCell ?_ (by first | (simp; done) | (simp; omega)) _))))).mono ?_); rintro e w5 ⟨rfl, hb5⟩; have HB5 := hid (bgo (a := w2) (by (repeat (first | (with_reducible exact HB5.out) | (with_reducible exact HB6.out) | (with_reducible exact Below.refl _ _) | (with_reducible refine Below.drew ?_) | (with_reducible refine bal ?_ _) | (with_reducible refine Below.setCell ?_ (by first | (simp; done) | (simp; omega)) _)))) hb5); obtain ⟨hc5, hf5⟩ := bcell hb5; have hz5 := hb5.size; (try simp at hz5); (try (have hy5 : w2.heap.size < w5.heap.size := by omega)); (try (have hx5 : w2.heap.size + 1 < w5.heap.size := by omega)); (try (have hv : w5.heap.size < w6.heap.size := by omega)); (try (have hu : w5.heap.size + 1 < w6.heap.size := by omega)); clear hb5)
    | (go_at_call 81; (with_reducible refine (HCb2.out _ (by (repeat (first | (with_reducible exact HB5.out) | (with_reducible exact HB6.out) | (with_reducible exact Below.refl _ _) | (with_reducible refine Below.drew ?_) | (with_reducible refine bal ?_ _) | (with_reducible refine Below.setCell ?_ (by first | (simp; done) | (simp; omega)) _))))).mono ?_); rintro e w6 ⟨rfl, hb6⟩; have HB6 := hid (bgo (a := w2) (by (repeat (first | (with_reducible exact HB5.out) | (with_reducible exact HB6.out) | (with_reducible exact Below.refl _ _) | (with_reducible refine Below.drew ?_) | (with_reducible refine bal ?_ _) | (with_reducible refine Below.setCell ?_ (by first | (simp; done) | (simp; omega)) _)))) hb6); obtain ⟨hc6, hf6⟩ := bcell hb6; have hz6 := hb6.size; (try simp at hz6); (try (have hy6 : w2.heap.size < w6.heap.size := by omega)); (try (have hx6 : w2.heap.size + 1 < w6.heap.size := by omega)); (try (have hv : w5.heap.size < w6.heap.size := by omega)); (try (have hu : w5.heap.size + 1 < w6.heap.size := by omega)); clear hb6)
   )
  all_goals
   go_wp2_with fail
   go_meet
   refine ⟨_, _, rfl, rfl, hid ⟨?_, (by first | (simp; done) | (simp; omega) | omega), (by first | (simp; done) | (simp; omega) | omega), (by first | (simp; done) | (simp; omega) | omega), (by first | (simp; done) | (simp; omega) | omega)⟩, hid ⟨?_, ?_, ?_, ?_, ?_, ?_, ?_, ?_⟩, hid ⟨?_, ?_, ?_, ?_, ?_, ?_, ?_, ?_⟩⟩
   ·(repeat (first | (with_reducible exact HB5.out) | (with_reducible exact HB6.out) | (with_reducible exact Below.refl _ _) | (with_reducible refine Below.drew ?_) | (with_reducible refine bal ?_ _) | (with_reducible refine Below.setCell ?_ (by first | (simp; done) | (simp; omega)) _)))
   all_goals (try go_simp)
   all_goals first | (refine cset (x := .int .i64 0) ?_; go_simp; done) | (refine cset (x := .int .u64 0) ?_; go_simp; done)
 case rest =>
  obtain ⟨xB, yB, rfl, rfl, HBc, HXt, HYu⟩ := hcut
  clear KS HCa2 HCb2
  have HV3 := hid (HV2.out.trans (HBc.out.1.mono HV2.out.size))
  have BFA0 := hid (((HV3.out).block _ (ags HXA.out).1).trans HXA.out)
  have BFB0 := hid (((HV3.out).block _ (ags HXB.out).1).trans HXB.out)
  have HBW := hid (HB1.out.trans (HV3.out.mono HB1.out.size))
  have HT0 := hid (HH.out.fresh HBW.out)
  have HNA : Hid (New w wc (w.heap.size)) := hid ⟨by omega, (ags BFA0.out).1⟩
  have HNB : Hid (New w wc (w.heap.size + 1)) := hid ⟨by omega, (ags BFB0.out).1⟩
  have HNt : Hid (New w wc xB) := hid ⟨Nat.le_trans HB1.out.size (Nat.le_trans HV2.out.size HBc.out.2.1), HBc.out.2.2.1⟩
  have HNu : Hid (New w wc yB) := hid ⟨Nat.le_trans HB1.out.size (Nat.le_trans HV2.out.size HBc.out.2.2.2.1), HBc.out.2.2.2.2⟩
  have HA1 : Hid (wc.cell? ⟨rhb, 0, none⟩ = some (.pointer (some ⟨s.srb, 0, none⟩)) ∧ wc.cell? ⟨w.heap.size, 0, none⟩ = some (.int .i64 o) ∧ wc.cell? ⟨w.heap.size, 1, none⟩ = some (.int .i64 i) ∧ wc.cell? ⟨yB, 0, none⟩ = some (.int .i64 ua) ∧ wc.cell? ⟨yB, 1, none⟩ = some (.int .i64 ub) ∧ wc.cell? ⟨yB, 2, none⟩ = some (.int .i64 ux) ∧ wc.cell? ⟨yB, 3, none⟩ = some (.int .u64 ud) ∧ wc.cell? ⟨yB, 4, none⟩ = some (.int .i64 ue) ∧ wc.cell? ⟨yB, 5, none⟩ = some (.int .i64 uf) ∧ wc.cell? ⟨yB, 6, none⟩ = some (.int .i64 ug) ∧ wc.cell? ⟨yB, 7, none⟩ = some (.int .i64 uh)) := hid ⟨HT0.out.rc.1, (slot_cells BFA0.out).1, (slot_cells BFA0.out).2, HYu.out.1, HYu.out.2.1, HYu.out.2.2.1, HYu.out.2.2.2.1, HYu.out.2.2.2.2.1, HYu.out.2.2.2.2.2.1, HYu.out.2.2.2.2.2.2.1, HYu.out.2.2.2.2.2.2.2⟩
  have HD1 : Hid (wc.drew.cell? ⟨rhb, 0, none⟩ = some (.pointer (some ⟨s.srb, 0, none⟩)) ∧ wc.drew.cell? ⟨w.heap.size, 0, none⟩ = some (.int .i64 o) ∧ wc.drew.cell? ⟨w.heap.size, 1, none⟩ = some (.int .i64 i) ∧ wc.drew.cell? ⟨yB, 0, none⟩ = some (.int .i64 ua) ∧ wc.drew.cell? ⟨yB, 1, none⟩ = some (.int .i64 ub) ∧ wc.drew.cell? ⟨yB, 2, none⟩ = some (.int .i64 ux) ∧ wc.drew.cell? ⟨yB, 3, none⟩ = some (.int .u64 ud) ∧ wc.drew.cell? ⟨yB, 4, none⟩ = some (.int .i64 ue) ∧ wc.drew.cell? ⟨yB, 5, none⟩ = some (.int .i64 uf) ∧ wc.drew.cell? ⟨yB, 6, none⟩ = some (.int .i64 ug) ∧ wc.drew.cell? ⟨yB, 7, none⟩ = some (.int .i64 uh)) := hid HA1.out
  have HE1d := hid (HT0.out.call (show Below wc.heap.size wc wc.drew from (Below.refl _ _).drew))
  have HC1 := hid (HS2.out _ _ HE1d.out)
  go_upto_region 4 with fail
  go_region_held3 (fun w' => w'.cell? ⟨rhb, 0, none⟩ = some (.pointer (some ⟨s.srb, 0, none⟩)) ∧ w'.cell? ⟨w.heap.size, 0, none⟩ = some (.int .i64 o) ∧ w'.cell? ⟨w.heap.size, 1, none⟩ = some (.int .i64 i) ∧ w'.cell? ⟨yB, 0, none⟩ = some (.int .i64 ua) ∧ w'.cell? ⟨yB, 1, none⟩ = some (.int .i64 ub) ∧ w'.cell? ⟨yB, 2, none⟩ = some (.int .i64 ux) ∧ w'.cell? ⟨yB, 3, none⟩ = some (.int .u64 ud) ∧ w'.cell? ⟨yB, 4, none⟩ = some (.int .i64 ue) ∧ w'.cell? ⟨yB, 5, none⟩ = some (.int .i64 uf) ∧ w'.cell? ⟨yB, 6, none⟩ = some (.int .i64 ug) ∧ w'.cell? ⟨yB, 7, none⟩ = some (.int .i64 uh))
   (first | (with_reducible exact HA1.out) | (with_reducible exact HD1.out) | (with_reducible exact HF1.out))
   (first | (go_at_call 82; (with_reducible refine HC1.out.mono ?_); rintro e a1 ⟨rfl, hh, hk⟩; have HH1 := hid hh; have bfA := (hk _ (.inr HNA.out)).trans BFA0.out; have BFA1 := hid bfA; have bfB := (hk _ (.inr HNB.out)).trans BFB0.out; have BFB1 := hid bfB; have bft := keep8 (hk _ (.inr HNt.out)) HXt.out; have BFt1 := hid bft; have bfu := keep8 (hk _ (.inr HNu.out)) HYu.out; have BFu1 := hid bfu; have HK1 := hid hk; have HF1 : Hid (a1.cell? ⟨rhb, 0, none⟩ = some (.pointer (some ⟨s.srb, 0, none⟩)) ∧ a1.cell? ⟨w.heap.size, 0, none⟩ = some (.int .i64 o) ∧ a1.cell? ⟨w.heap.size, 1, none⟩ = some (.int .i64 i) ∧ a1.cell? ⟨yB, 0, none⟩ = some (.int .i64 ua) ∧ a1.cell? ⟨yB, 1, none⟩ = some (.int .i64 ub) ∧ a1.cell? ⟨yB, 2, none⟩ = some (.int .i64 ux) ∧ a1.cell? ⟨yB, 3, none⟩ = some (.int .u64 ud) ∧ a1.cell? ⟨yB, 4, none⟩ = some (.int .i64 ue) ∧ a1.cell? ⟨yB, 5, none⟩ = some (.int .i64 uf) ∧ a1.cell? ⟨yB, 6, none⟩ = some (.int .i64 ug) ∧ a1.cell? ⟨yB, 7, none⟩ = some (.int .i64 uh)) := hid ⟨hh.rc.1, (slot_cells bfA).1, (slot_cells bfA).2, bfu.1, bfu.2.1, bfu.2.2.1, bfu.2.2.2.1, bfu.2.2.2.2.1, bfu.2.2.2.2.2.1, bfu.2.2.2.2.2.2.1, bfu.2.2.2.2.2.2.2⟩; clear hh hk bfA bfB bft bfu))
  have HA2 : Hid (a1.cell? ⟨rhb, 0, none⟩ = some (.pointer (some ⟨s.srb, 0, none⟩)) ∧ a1.cell? ⟨w.heap.size + 1, 0, none⟩ = some (.int .i64 p) ∧ a1.cell? ⟨w.heap.size + 1, 1, none⟩ = some (.int .i64 j) ∧ a1.cell? ⟨xB, 0, none⟩ = some (.int .i64 ta) ∧ a1.cell? ⟨xB, 1, none⟩ = some (.int .i64 tb) ∧ a1.cell? ⟨xB, 2, none⟩ = some (.int .i64 tx) ∧ a1.cell? ⟨xB, 3, none⟩ = some (.int .u64 td) ∧ a1.cell? ⟨xB, 4, none⟩ = some (.int .i64 te) ∧ a1.cell? ⟨xB, 5, none⟩ = some (.int .i64 tf) ∧ a1.cell? ⟨xB, 6, none⟩ = some (.int .i64 tg) ∧ a1.cell? ⟨xB, 7, none⟩ = some (.int .i64 th)) := hid ⟨HH1.out.rc.1, (slot_cells BFB1.out).1, (slot_cells BFB1.out).2, BFt1.out.1, BFt1.out.2.1, BFt1.out.2.2.1, BFt1.out.2.2.2.1, BFt1.out.2.2.2.2.1, BFt1.out.2.2.2.2.2.1, BFt1.out.2.2.2.2.2.2.1, BFt1.out.2.2.2.2.2.2.2⟩
  have HD2 : Hid (a1.drew.cell? ⟨rhb, 0, none⟩ = some (.pointer (some ⟨s.srb, 0, none⟩)) ∧ a1.drew.cell? ⟨w.heap.size + 1, 0, none⟩ = some (.int .i64 p) ∧ a1.drew.cell? ⟨w.heap.size + 1, 1, none⟩ = some (.int .i64 j) ∧ a1.drew.cell? ⟨xB, 0, none⟩ = some (.int .i64 ta) ∧ a1.drew.cell? ⟨xB, 1, none⟩ = some (.int .i64 tb) ∧ a1.drew.cell? ⟨xB, 2, none⟩ = some (.int .i64 tx) ∧ a1.drew.cell? ⟨xB, 3, none⟩ = some (.int .u64 td) ∧ a1.drew.cell? ⟨xB, 4, none⟩ = some (.int .i64 te) ∧ a1.drew.cell? ⟨xB, 5, none⟩ = some (.int .i64 tf) ∧ a1.drew.cell? ⟨xB, 6, none⟩ = some (.int .i64 tg) ∧ a1.drew.cell? ⟨xB, 7, none⟩ = some (.int .i64 th)) := hid HA2.out
  have HE2d := hid (HH1.out.call (show Below a1.heap.size a1 a1.drew from (Below.refl _ _).drew))
  have HC2 := hid (HS3.out _ _ HE2d.out)
  go_upto_region 5 with fail
  go_region_held3 (fun w' => w'.cell? ⟨rhb, 0, none⟩ = some (.pointer (some ⟨s.srb, 0, none⟩)) ∧ w'.cell? ⟨w.heap.size + 1, 0, none⟩ = some (.int .i64 p) ∧ w'.cell? ⟨w.heap.size + 1, 1, none⟩ = some (.int .i64 j) ∧ w'.cell? ⟨xB, 0, none⟩ = some (.int .i64 ta) ∧ w'.cell? ⟨xB, 1, none⟩ = some (.int .i64 tb) ∧ w'.cell? ⟨xB, 2, none⟩ = some (.int .i64 tx) ∧ w'.cell? ⟨xB, 3, none⟩ = some (.int .u64 td) ∧ w'.cell? ⟨xB, 4, none⟩ = some (.int .i64 te) ∧ w'.cell? ⟨xB, 5, none⟩ = some (.int .i64 tf) ∧ w'.cell? ⟨xB, 6, none⟩ = some (.int .i64 tg) ∧ w'.cell? ⟨xB, 7, none⟩ = some (.int .i64 th))
   (first | (with_reducible exact HA2.out) | (with_reducible exact HD2.out) | (with_reducible exact HF2.out))
   (first | (go_at_call 82; (with_reducible refine HC2.out.mono ?_); rintro e a2 ⟨rfl, hh, hk⟩; have HH2 := hid hh; have bfA := (hk _ (.inr HNA.out)).trans BFA1.out; have BFA2 := hid bfA; have bfB := (hk _ (.inr HNB.out)).trans BFB1.out; have BFB2 := hid bfB; have bft := keep8 (hk _ (.inr HNt.out)) BFt1.out; have BFt2 := hid bft; have bfu := keep8 (hk _ (.inr HNu.out)) BFu1.out; have BFu2 := hid bfu; have HK2 := hid hk; have HF2 : Hid (a2.cell? ⟨rhb, 0, none⟩ = some (.pointer (some ⟨s.srb, 0, none⟩)) ∧ a2.cell? ⟨w.heap.size + 1, 0, none⟩ = some (.int .i64 p) ∧ a2.cell? ⟨w.heap.size + 1, 1, none⟩ = some (.int .i64 j) ∧ a2.cell? ⟨xB, 0, none⟩ = some (.int .i64 ta) ∧ a2.cell? ⟨xB, 1, none⟩ = some (.int .i64 tb) ∧ a2.cell? ⟨xB, 2, none⟩ = some (.int .i64 tx) ∧ a2.cell? ⟨xB, 3, none⟩ = some (.int .u64 td) ∧ a2.cell? ⟨xB, 4, none⟩ = some (.int .i64 te) ∧ a2.cell? ⟨xB, 5, none⟩ = some (.int .i64 tf) ∧ a2.cell? ⟨xB, 6, none⟩ = some (.int .i64 tg) ∧ a2.cell? ⟨xB, 7, none⟩ = some (.int .i64 th)) := hid ⟨hh.rc.1, (slot_cells bfB).1, (slot_cells bfB).2, bft.1, bft.2.1, bft.2.2.1, bft.2.2.2.1, bft.2.2.2.2.1, bft.2.2.2.2.2.1, bft.2.2.2.2.2.2.1, bft.2.2.2.2.2.2.2⟩; clear hh hk bfA bfB bft bfu))
  have HA3 : Hid (a2.cell? ⟨rhb, 1, none⟩ = some (.pointer (some ⟨s.trb, 0, none⟩)) ∧ a2.cell? ⟨w.heap.size, 0, none⟩ = some (.int .i64 o) ∧ a2.cell? ⟨w.heap.size, 1, none⟩ = some (.int .i64 i) ∧ a2.cell? ⟨w.heap.size + 1, 0, none⟩ = some (.int .i64 p) ∧ a2.cell? ⟨w.heap.size + 1, 1, none⟩ = some (.int .i64 j)) := hid ⟨HH2.out.rc.2.1, (slot_cells BFA2.out).1, (slot_cells BFA2.out).2, (slot_cells BFB2.out).1, (slot_cells BFB2.out).2⟩
  have HD3 : Hid (a2.drew.cell? ⟨rhb, 1, none⟩ = some (.pointer (some ⟨s.trb, 0, none⟩)) ∧ a2.drew.cell? ⟨w.heap.size, 0, none⟩ = some (.int .i64 o) ∧ a2.drew.cell? ⟨w.heap.size, 1, none⟩ = some (.int .i64 i) ∧ a2.drew.cell? ⟨w.heap.size + 1, 0, none⟩ = some (.int .i64 p) ∧ a2.drew.cell? ⟨w.heap.size + 1, 1, none⟩ = some (.int .i64 j)) := hid HA3.out
  have HE3d := hid (HH2.out.call (show Below a2.heap.size a2 a2.drew from (Below.refl _ _).drew))
  have HC3 := hid (HSW.out _ _ HE3d.out)
  go_upto_region 6 with fail
  go_region_held3 (fun w' => w'.cell? ⟨rhb, 1, none⟩ = some (.pointer (some ⟨s.trb, 0, none⟩)) ∧ w'.cell? ⟨w.heap.size, 0, none⟩ = some (.int .i64 o) ∧ w'.cell? ⟨w.heap.size, 1, none⟩ = some (.int .i64 i) ∧ w'.cell? ⟨w.heap.size + 1, 0, none⟩ = some (.int .i64 p) ∧ w'.cell? ⟨w.heap.size + 1, 1, none⟩ = some (.int .i64 j))
   (first | (with_reducible exact HA3.out) | (with_reducible exact HD3.out) | (with_reducible exact HF3.out))
   (first | (go_at_call 92; (with_reducible refine HC3.out.mono ?_); rintro e a3 ⟨rfl, hh, hk⟩; have HH3 := hid hh; have bfA := (hk _ (.inr HNA.out)).trans BFA2.out; have BFA3 := hid bfA; have bfB := (hk _ (.inr HNB.out)).trans BFB2.out; have BFB3 := hid bfB; have bft := keep8 (hk _ (.inr HNt.out)) BFt2.out; have BFt3 := hid bft; have bfu := keep8 (hk _ (.inr HNu.out)) BFu2.out; have BFu3 := hid bfu; have HK3 := hid hk; have HF3 : Hid (a3.cell? ⟨rhb, 1, none⟩ = some (.pointer (some ⟨s.trb, 0, none⟩)) ∧ a3.cell? ⟨w.heap.size, 0, none⟩ = some (.int .i64 o) ∧ a3.cell? ⟨w.heap.size, 1, none⟩ = some (.int .i64 i) ∧ a3.cell? ⟨w.heap.size + 1, 0, none⟩ = some (.int .i64 p) ∧ a3.cell? ⟨w.heap.size + 1, 1, none⟩ = some (.int .i64 j)) := hid ⟨hh.rc.2.1, (slot_cells bfA).1, (slot_cells bfA).2, (slot_cells bfB).1, (slot_cells bfB).2⟩; clear hh hk bfA bfB bft bfu))
  all_goals
   go_wp2
   go_ret
   exact ⟨rfl, HH3.out.weak (fun k q => .inl q), fun k q => (HK3.out k (.inl q)).trans ((HK2.out k (.inl q)).trans ((HK1.out k (.inl q)).trans (HBW.out.block k (HH.out.lt q))))⟩
end HdS
end
section
attribute [local go_sem] Oper.semAt_some
namespace HdS
open TabS (Cp Sn zC mayC sizS getR getN Two Pr FootP foot_ltP foot_ltR SameS AddRel addSR setN setM rowsS hasS dropSR dropSL heldA hdsC)
variable {W w w' : World} {s : Sh} {hb rhb n n' : Nat} {L M L' M' : List Sn} {l l2 l' l2' : List Nod} {S : Nat → Prop}
structure KpU (B0 N p q : Nat) (A B : World) : Prop where
 os : B.os = A.os
 tape : B.tape = A.tape
 output : B.output = A.output
 size : A.heap.size ≤ B.heap.size
 low : ∀ k, k < B0 → B.heap[k]? = A.heap[k]?
 bp : B.heap[p]? = A.heap[p]?
 bq : B.heap[q]? = A.heap[q]?
 up : ∀ k j v, N ≤ k → A.cell? ⟨k, j, none⟩ = some v → B.cell? ⟨k, j, none⟩ = some v
theorem KpU.refl {B0 N p q : Nat} (A : World) : KpU B0 N p q A A := ⟨rfl, rfl, rfl, Nat.le_refl _, fun _ _ => rfl, rfl, rfl, fun _ _ _ _ h => h⟩
theorem KpU.trans {B0 N p q : Nat} {A B C : World} (h : KpU B0 N p q A B) (k : KpU B0 N p q B C) : KpU B0 N p q A C :=
 ⟨k.os.trans h.os, k.tape.trans h.tape, k.output.trans h.output, Nat.le_trans h.size k.size, fun i hi => (k.low i hi).trans (h.low i hi), k.bp.trans h.bp, k.bq.trans h.bq, fun i j v hi hv => k.up i j v hi (h.up i j v hi hv)⟩
theorem KpU.of_below {B0 N p q : Nat} {A B : World} (h : Below A.heap.size A B) (h0 : B0 ≤ A.heap.size) (hp : p < A.heap.size) (hq : q < A.heap.size) : KpU B0 N p q A B :=
 ⟨h.os, h.tape, h.output, h.size, fun k hk => h.block k (by omega), h.block p hp, h.block q hq, fun k j v _ hv => (h.cell (p := ⟨k, j, none⟩) (World.block_lt_of_cell? A _ hv)).trans hv⟩
theorem KpU.below {B0 N p q : Nat} {U A B : World} (h : KpU B0 N p q A B) (hA : Below B0 U A) : Below B0 U B :=
 ⟨h.os.trans hA.os, h.tape.trans hA.tape, h.output.trans hA.output, Nat.le_trans hA.size h.size, fun k hk => (h.low k hk).trans (hA.block k hk)⟩
theorem held_cells {w : World} {k : Nat} {n i a b c d e f g h : Int} (hh : w.heap[k]? = some (.cells #[.int .i64 n, .int .i64 i, .int .i64 a, .int .i64 b, .int .i64 c, .int .u64 d, .int .i64 e, .int .i64 f, .int .i64 g, .int .i64 h] 46 (0, 0))) : w.cell? ⟨k, 0, none⟩ = some (.int .i64 n) ∧ w.cell? ⟨k, 1, none⟩ = some (.int .i64 i) ∧ True :=
 ⟨cell_cur (cur := [.int .i64 n, .int .i64 i, .int .i64 a, .int .i64 b, .int .i64 c, .int .u64 d, .int .i64 e, .int .i64 f, .int .i64 g, .int .i64 h]) hh 0, cell_cur (cur := [.int .i64 n, .int .i64 i, .int .i64 a, .int .i64 b, .int .i64 c, .int .u64 d, .int .i64 e, .int .i64 f, .int .i64 g, .int .i64 h]) hh 1, trivial⟩
theorem yield_two {A B : World → Prop} {e : Ending} {W' : World} (h : (e = .returned (.bool true) ∧ A W') ∨ (e = .returned (.bool false) ∧ B W')) : ∃ t, e = .returned (.bool t) ∧ (t = true → A W') ∧ (t = false → B W') := by
 rcases h with ⟨h1, h2⟩ | ⟨h1, h2⟩
 ·exact ⟨true, h1, fun _ => h2, fun e => by cases e⟩
 ·exact ⟨false, h1, fun e => (by cases e), fun _ => h2⟩
def hdC (H : List TabS.Hd) (k : Nat) : TabS.Hd := TabS.hdAt H k
def likeP (c : Cp) (H : List TabS.Hd) (k : Nat) : Bool := sameC (TabS.hdAt H k).c c
theorem alike1_seq (z p q : Nat) (c : Cp) (w0 : World) (h : Hd W s hb rhb n L M l l2 S w0) (hT0 : CX.TabG W) (hp : w0.heap[p]? = some (.cells #[.pointer (some ⟨hb, 0, none⟩)] 24 (0, 0))) (hq : w0.heap[q]? = some (.cells c.L.toArray 33 (0, 0))) (hce : c.e ≤ 9223372036854775807) (hHe : ∀ k, (TabS.hdAt (heldA L) k).c.e ≤ 9223372036854775807) (hl : L.length < 1000000) (hn : (heldA L).length < 1000000) :
  SeqStopsK Fence.wide (z + 1) Tryz.prog 105 #[.pointer (some ⟨p, 0, none⟩), .pointer (some ⟨q, 0, none⟩)] (fun x : Fin (heldA L).length => #[slV (TabS.hdAt (heldA L) x.1).n (TabS.hdAt (heldA L) x.1).i]) (KpU W.heap.size w0.heap.size p q) (fun xs => ∀ x, x ∈ xs ↔ likeP c (heldA L) x.1 = true) (fun pre => ∀ x ∈ pre, likeP c (heldA L) x.1 = true) (heldA L).length w0 := by
 intro y J Jx U hB hAb hAx hY h0
 have hU := h.call hB
 have hWU := hU.below
 have hpz : p < U.heap.size := Nat.lt_of_lt_of_le (ags hp).1 hB.size
 have hqz : q < U.heap.size := Nat.lt_of_lt_of_le (ags hq).1 hB.size
 have hpU := (hB.block p (ags hp).1).trans hp
 have HQU := hid ((hB.block q (ags hq).1).trans hq)
 have HUS := hid (hU.bo.used hl)
 have p0 := (cell_box hpU).1
 obtain ⟨u0, -, u2⟩ := hU.c
 have HY := hid hY
 have HAB := hid hAb
 have HWU := hid hWU
 have HT := hid hT0
 have HZ := hid (And.intro hpz hqz)
 have HE := hid (And.intro hce hHe)
 have HB := hid hB
 have HN := hid hn
 have H0 := hid h0
 clear hY hAb hAx h hT0 hp hq hU hWU hpz hqz hpU hce hHe hB hl hn h0
 generalize heldA L = H at *
 refine callsIn_of_wp Tryz.func105 rfl trivial ?_ rfl
 simp only [Tryz.ntmps105, List.size_toArray, List.length_cons, List.length_nil, Nat.reduceAdd, Nat.reduceSub, Array.replicate_succ, Array.replicate_zero, List.push_toArray, List.append_toArray, List.nil_append, List.cons_append]
 gi_wp2_with (refine ⟨trivial, ?_⟩; (gi_at_call 52; refine (callsIn_wide.2 HUS.out).mono ?_; rintro e w1 ⟨r, rfl, hr, hb1⟩; obtain ⟨ra, rc, rfl, hrc, hra⟩ := TabS.hs_of hr; have HB1 := hid hb1; have HRA := hid hra; clear hr hb1 hra))
 clear p0 u0 u2
 have hJ1 : J [] w1 := HAB.out _ U w1 none H0.out ⟨HB1.out.os, HB1.out.tape, HB1.out.output, HB1.out.size, fun j hj _ => HB1.out.block j hj⟩ (fun r e => by cases e)
 have HJ1 := hid hJ1
 clear hJ1
 gi_loopw [5, 12] (fun bx i wr => ∃ (k : Nat) (pre : List (Fin H.length)), k ≤ H.length ∧ i = .int .i64 k ∧ Hid (J pre wr ∧ KpU W.heap.size w0.heap.size p q w1 wr ∧ pre.length ≤ k ∧ ∀ x, x ∈ pre ↔ x.1 < k ∧ likeP c H x.1 = true)) (fun bx i _ => H.length - (intOf i).toNat)
 case atStart => exact ⟨0, [], by omega, rfl, hid ⟨HJ1.out, KpU.refl _, by simp, fun x => ⟨fun h => absurd h List.not_mem_nil, fun h => absurd h.1 (by omega)⟩⟩⟩
 case round =>
  obtain ⟨k, pre, hk, rfl, HP⟩ := hrel
  by_cases hlt : k < H.length
  ·have hltI : (k : Int) < H.length := by omega
   have hat : TabS.hdAt H k = H[k] := by unfold TabS.hdAt; rw [List.getElem?_eq_getElem hlt]; rfl
   obtain ⟨g, rfl, hg1, hg2, hg3⟩ := HRA.out k hlt
   have hrow := hg3 k _ (List.getElem?_eq_getElem hlt)
   have HS := hid (show likeP c H k = sameC (TabS.hdAt H k).c c from rfl)
   have hxe := HE.out.2 k
   obtain ⟨x, hx⟩ : ∃ x, x = TabS.hdAt H k := ⟨_, rfl⟩
   rw [← hat, ← hx] at hrow
   rw [← hx] at HS hxe
   have HX := hid hx
   clear hx hat
   obtain ⟨xn, xi, ⟨xa, xb, xx, xd, xe, xf, xg, xh⟩⟩ := x
   have hz : ∀ (j : Nat) (v : Value), (TabS.Hd.L ⟨xn, xi, ⟨xa, xb, xx, xd, xe, xf, xg, xh⟩⟩)[j]? = some v → wr.cell? ⟨g, k * 10 + j, none⟩ = some v := fun j v hv => HP.out.2.1.up g _ v (Nat.le_trans HB.out.size hg1) (hrow j v hv)
   have z0 := hz 0 _ rfl
   rw [Nat.add_zero] at z0
   have z1 := hz 1 _ rfl
   have z2 := hz 2 _ rfl
   have z3 := hz 3 _ rfl
   have z4 := hz 4 _ rfl
   have z5 := hz 5 _ rfl
   have z6 := hz 6 _ rfl
   have z7 := hz 7 _ rfl
   have z8 := hz 8 _ rfl
   have z9 := hz 9 _ rfl
   have lgr : g < wr.heap.size := World.block_lt_of_cell? wr _ z0
   have hqr := HP.out.2.1.bq.trans ((HB1.out.block q HZ.out.2).trans HQU.out)
   have lqr := (ags hqr).1
   have hsz : w1.heap.size ≤ wr.heap.size := HP.out.2.1.size
   have HSZ := hid (show U.heap.size ≤ wr.heap.size from Nat.le_trans HB1.out.size hsz)
   have HBW : Hid (Below W.heap.size W wr) := hid (HP.out.2.1.below (HWU.out.trans (HB1.out.mono HWU.out.size)))
   obtain ⟨w2, hw2⟩ : ∃ y, y = wr.alloc (.cells #[.int .i64 xn, .int .i64 xi, .int .i64 xa, .int .i64 xb, .int .i64 xx, .int .u64 xd, .int .i64 xe, .int .i64 xf, .int .i64 xg, .int .i64 xh] 46) := ⟨_, rfl⟩
   have hb2 : Below wr.heap.size wr w2 := hw2 ▸ bal (Below.refl _ _) _
   have hAL := halike w2 (HT.out.call (HBW.out.trans (hb2.mono HBW.out.size))) ⟨xa, xb, xx, xd, xe, xf, xg, xh⟩ c hxe HE.out.1
   have hx2 : w2.heap[wr.heap.size]? = some (.cells #[.int .i64 xn, .int .i64 xi, .int .i64 xa, .int .i64 xb, .int .i64 xx, .int .u64 xd, .int .i64 xe, .int .i64 xf, .int .i64 xg, .int .i64 xh] 46 (0, 0)) := by rw [hw2]; exact World.alloc_heap_new wr _
   have HX2 := hid hx2
   have HB2 := hid hb2
   have HW2 := hid hw2
   obtain ⟨sm, hsm⟩ : ∃ y, y = sameC (⟨xa, xb, xx, xd, xe, xf, xg, xh⟩ : Cp) c := ⟨_, rfl⟩
   rw [← hsm] at hAL HS
   have HSM := hid hsm
   clear hsm
   obtain ⟨y0, y1, y2, y3, y4, y5, y6, y7⟩ := cap_cells hqr
   obtain ⟨ca, cb, cx, cd, ce, cf, cg, ch⟩ := c
   simp only [] at y0 y1 y2 y3 y4 y5 y6 y7
   have HAL := hid hAL
   have HG := hid lgr
   clear hrow hz hAL hx2 hb2 hw2 hqr hxe hg1 hg2 hg3 lgr
   have HJW : Hid (∀ v, Below wr.heap.size wr v → J pre v) := hid (fun v hv => HAB.out _ wr v none HP.out.1 ⟨hv.os, hv.tape, hv.output, hv.size, fun j hj _ => hv.block j hj⟩ (fun r e => by cases e))
   have HKW : Hid (∀ v, Below wr.heap.size wr v → KpU W.heap.size w0.heap.size p q w1 v) := hid (fun v hv => HP.out.2.1.trans (KpU.of_below hv HBW.out.size (Nat.lt_of_lt_of_le HZ.out.1 HSZ.out) lqr))
   have hkb : k + 1 < 4000000 := by have := HN.out; omega
   cases sm
   ·gi_wp2_with (refine ⟨trivial, ?_⟩; (gi_at_call 22; rw [← HW2.out]; refine (callsIn_wide.2 HAL.out).mono ?_; rintro e w3 ⟨rfl, hb3⟩; have HB3 := hid (HB2.out.trans (hb3.mono HB2.out.size)); clear hb3))
    refine ⟨fun _ h => (by cases h), ?_⟩
    gi_wp2
    go_roundw
    case rel => exact ⟨k + 1, pre, by omega, by go_num, hid ⟨HJW.out w3 HB3.out, HKW.out w3 HB3.out, Nat.le_succ_of_le HP.out.2.2.1, fun x => ⟨fun h => ⟨Nat.lt_succ_of_lt ((HP.out.2.2.2 x).1 h).1, ((HP.out.2.2.2 x).1 h).2⟩, fun h => (HP.out.2.2.2 x).2 ⟨(by
     rcases Nat.lt_or_ge x.1 k with q1 | q1
     ·exact q1
     ·have q2 : x.1 = k := by have := h.1; omega
      have q3 := h.2
      rw [q2, HS.out] at q3
      cases q3), h.2⟩⟩⟩⟩
    case measure => first | (simp [intOf]; done) | (simp [intOf]; omega)
   ·gi_wp2_with fail
    refine ⟨trivial, ?_⟩
    gi_at_call 22
    rw [← HW2.out]
    refine (callsIn_wide.2 HAL.out).mono ?_
    rintro e w3 ⟨rfl, hb3⟩
    have HB3 := hid (HB2.out.trans (hb3.mono HB2.out.size))
    have hx3 := (hb3.block _ (ags HX2.out).1).trans HX2.out
    obtain ⟨e0, e1, -⟩ := held_cells hx3
    have HL := hid (show pre.length < H.length from Nat.lt_of_le_of_lt HP.out.2.2.1 hlt)
    obtain ⟨fn, tmps, assign, body, hy, hR⟩ := HY.out pre ⟨k, hlt⟩ w3 (HJW.out w3 HB3.out) HL.out
    rw [show TabS.hdAt H (⟨k, hlt⟩ : Fin H.length).1 = _ from HX.out.symm] at hy
    (try dsimp only at hy)
    have HR := hid (hR.mono (fun e W' h => yield_two (A := fun W' => J (pre ++ [⟨k, hlt⟩]) W' ∧ KpU W.heap.size w0.heap.size p q w3 W') (B := fun W' => Jx (pre ++ [⟨k, hlt⟩]) W') h))
    clear hb3 hx3 hR
    gi_wp2
    refine HR.out.mono ?_
    rintro e W' ⟨t, rfl, ht⟩
    have HTT := hid ht
    clear ht
    cases t
    ·gi_wp2
     first
      | refine bodyPost_ret (results_none rfl _ _ _) rfl ?_
      | go_end0
     exact ⟨⟨_, rfl⟩, .inr ⟨pre ++ [⟨k, hlt⟩], fun x hx => (by
      rcases List.mem_append.1 hx with q1 | q1
      ·exact ((HP.out.2.2.2 x).1 q1).2
      ·rw [List.mem_singleton] at q1
       rw [q1]
       exact HS.out), HTT.out.2 (by first | rfl | trivial)⟩⟩
    ·gi_wp2
     go_roundw
     case rel => exact ⟨k + 1, pre ++ [⟨k, hlt⟩], by omega, by go_num, hid ⟨(HTT.out.1 (by first | rfl | trivial)).1, (HKW.out w3 HB3.out).trans (HTT.out.1 (by first | rfl | trivial)).2, by have := HP.out.2.2.1; simp; omega, fun x => ⟨fun h => (by
      rcases List.mem_append.1 h with q1 | q1
      ·exact ⟨Nat.lt_succ_of_lt ((HP.out.2.2.2 x).1 q1).1, ((HP.out.2.2.2 x).1 q1).2⟩
      ·rw [List.mem_singleton] at q1
       rw [q1]
       exact ⟨Nat.lt_succ_self k, HS.out⟩), fun h => List.mem_append.2 (by
      rcases Nat.lt_or_ge x.1 k with q1 | q1
      ·exact .inl ((HP.out.2.2.2 x).2 ⟨q1, h.2⟩)
      ·have q2 : x.1 = k := by have := h.1; omega
       exact .inr (List.mem_singleton.2 (Fin.ext q2)))⟩⟩⟩
     case measure => first | (simp [intOf]; done) | (simp [intOf]; omega)
  ·obtain rfl : k = H.length := by omega
   gi_wp2
   go_end0
   exact ⟨⟨_, rfl⟩, .inl ⟨pre, fun x => ⟨fun h => ((HP.out.2.2.2 x).1 h).2, fun h => (HP.out.2.2.2 x).2 ⟨x.2, h⟩⟩, HP.out.1⟩⟩
end HdS
end
section
attribute [local go_sem] Oper.semAt_some
namespace HdS
open TabS (Cp Sn zC mayC sizS getR getN Two Pr FootP foot_ltP foot_ltR SameS AddRel addSR setN setM rowsS hasS dropSR dropSL heldA hdsC)
variable {W w w' : World} {s : Sh} {hb rhb n n' : Nat} {L M L' M' : List Sn} {l l2 l' l2' : List Nod} {S : Nat → Prop}
theorem scope_wide {n : Nat} {P : Program} {c : Code} {Q : Exit → Act → World → Prop} {a : Act} {w : World} (h : c.wpIn Fence.wide n P (Exit.noGoto Q) a w) : (Code.scope c).wpIn Fence.wide n P Q a w :=
 wpIn_wide.2 (wp_scope_straight (wpIn_wide.1 h))
def aliW (w : World) (hb : Nat) (c : Cp) : World := (w.alloc (.cells #[.pointer (some ⟨hb, 0, none⟩)] 24)).alloc (.cells c.L.toArray 33)
theorem halikef (w : World) (hb : Nat) (c : Cp) :
  Calls Tryz.prog 70 #[.pointer (some ⟨hb, 0, none⟩), c.V] w fun e w' => e = .returned (.func (.func 105) #[] #[.pointer (some ⟨w.heap.size, 0, none⟩), .pointer (some ⟨w.heap.size + 1, 0, none⟩)]) ∧ w' = aliW w hb c := by
 obtain ⟨ca, cb, cx, cd, ce, cf, cg, ch⟩ := c
 go_enter Tryz.func70, Tryz.ntmps70
 go_wp2
 go_ret
 first | trivial | exact ⟨rfl, rfl⟩ | rfl
theorem aliW_boxes (w : World) (hb : Nat) (c : Cp) : Below w.heap.size w (aliW w hb c) ∧ (aliW w hb c).heap[w.heap.size]? = some (.cells #[.pointer (some ⟨hb, 0, none⟩)] 24 (0, 0)) ∧ (aliW w hb c).heap[w.heap.size + 1]? = some (.cells c.L.toArray 33 (0, 0)) ∧ (aliW w hb c).heap.size = w.heap.size + 2 := by
 unfold aliW
 refine ⟨bal (bal (Below.refl _ _) _) _, (Below.heap_alloc _ _ _ (by simp)).trans (heap_alloc_new w _), ?_, by simp⟩
 have := heap_alloc_new (w.alloc (.cells #[.pointer (some ⟨hb, 0, none⟩)] 24)) (.cells c.L.toArray 33)
 rwa [World.size_alloc] at this
def onlyB (H : List TabS.Hd) (o i : Int) (c : Cp) : Bool := (List.finRange H.length).all fun x => !likeP c H x.1 || decide ((TabS.hdAt H x.1).n = o ∧ ((TabS.hdAt H x.1).i : Int) = i)
def finB (L : List Sn) (o i : Int) : Bool := decide (fullN L o i = 0) && onlyB (heldA L) o i (gt L o i)
theorem hfinal_no (h : Hd W s hb rhb n L M l l2 S w) (o i : Int) (hno : fullN L o i ≠ 0) :
  Calls Tryz.prog 26 #[.pointer (some ⟨hb, 0, none⟩), slV o i] w fun e w' => e = .returned (.bool false) ∧ Below w.heap.size w w' := by
 have hb1 : Below w.heap.size w (w.alloc (slO o i)) := bal (Below.refl _ _) _
 obtain ⟨w1, hw1⟩ : ∃ y, y = w.alloc (slO o i) := ⟨_, rfl⟩
 have hs1 : w1.heap[w.heap.size]? = some (.cells #[.int .i64 o, .int .i64 i] 30 (0, 0)) := by rw [hw1]; exact heap_alloc_new w _
 rw [← hw1] at hb1
 have HB1 := hid hb1
 have HG := hid (hfull (h.call hb1) o i)
 generalize gt L o i = c at *
 generalize fullN L o i = cn at *
 have HW := hid hw1
 have hcn' : (cn != 0) = true := bne_iff_ne.2 hno
 obtain ⟨k0, k1⟩ := slot_cells hs1
 clear h hb1 hw1 hs1 hno
 obtain ⟨ca, cb, cx, cd, ce, cf, cg, ch⟩ := c
 go_enter Tryz.func26, Tryz.ntmps26
 go_wp2
 go_step3
 go_wp2_with (go_at_call 69; rw [← HW.out]; (with_reducible refine HG.out.mono ?_); rintro e w2 ⟨rfl, hb2⟩; have HB2 := hid hb2; clear hb2)
 (try rw [Exit.noGoto_ret])
 refine bodyPost_ret (v := .bool false) (by simp [results, Tryz.results26, go_sem]) rfl ?_
 exact ⟨rfl, bal (HB1.out.trans (HB2.out.mono HB1.out.size)) _⟩
structure OneT (b : Nat) (u v : World) : Prop where
 os : v.os = u.os
 tape : v.tape = u.tape
 output : v.output = u.output
 size : u.heap.size ≤ v.heap.size
 block : ∀ k, k < u.heap.size → k ≠ b → v.heap[k]? = u.heap[k]?
theorem OneT.refl (b : Nat) (w : World) : OneT b w w := ⟨rfl, rfl, rfl, Nat.le_refl _, fun _ _ _ => rfl⟩
theorem OneT.trans {b : Nat} {u v x : World} (h : OneT b u v) (k : OneT b v x) : OneT b u x := ⟨k.os.trans h.os, k.tape.trans h.tape, k.output.trans h.output, Nat.le_trans h.size k.size, fun i hi h1 => (k.block i (Nat.lt_of_lt_of_le hi h.size) h1).trans (h.block i hi h1)⟩
theorem OneT.of_below {b : Nat} {u v : World} (h : Below u.heap.size u v) : OneT b u v := ⟨h.os, h.tape, h.output, h.size, fun k hk _ => h.block k hk⟩
theorem OneT.set {b : Nat} {u v : World} (h : OneT b u v) (j : Nat) (x : Value) : OneT b u (v.setCell ⟨b, j, none⟩ x) :=
 ⟨h.os, h.tape, h.output, by simpa using h.size, fun k hk h1 => (Go.heap_setCell_other _ _ _ _ (by simpa using h1)).trans (h.block k hk h1)⟩
theorem OneT.grown {b : Nat} {u v x : World} {row : Option Nat} (h : OneT b u v) (hg : v.grownBy x row) (hr : ∀ r, row = some r → u.heap.size ≤ r) : OneT b u x :=
 ⟨hg.os.trans h.os, hg.tape.trans h.tape, hg.output.trans h.output, Nat.le_trans h.size hg.size, fun k hk h1 => (hg.block k (Nat.lt_of_lt_of_le hk h.size) (fun e => by have := hr k e.symm; omega)).trans (h.block k hk h1)⟩
theorem OneT.below {b D : Nat} {u v : World} (h : OneT b u v) (hD : D ≤ b) (hs : D ≤ u.heap.size) : Below D u v := ⟨h.os, h.tape, h.output, h.size, fun k hk => h.block k (by omega) (by omega)⟩
theorem OneT.keeps {b B : Nat} {u v : World} (h : OneT b u v) (hB : b < B) : KeepsFrom B u v := ⟨h.size, fun k o hk ho _ => (h.block k (ags ho).1 (by omega)).trans ho⟩
theorem OneT.kpu {b B0 N p q : Nat} {u v : World} (h : OneT b u v) (h0 : B0 ≤ b) (hN : b < N) (hB : B0 ≤ u.heap.size) (hp : p < u.heap.size) (hq : q < u.heap.size) (ep : p ≠ b) (eq : q ≠ b) : KpU B0 N p q u v :=
 ⟨h.os, h.tape, h.output, h.size, fun k hk => h.block k (by omega) (by omega), h.block p hp ep, h.block q hq eq, fun k j x hk hx => (World.cell?_of_block (a := ⟨k, j, none⟩) (h.block k (World.block_lt_of_cell? u _ hx) (by omega))).trans hx⟩
abbrev BoolAt (W : World) (b : Nat) (t : Bool) : Prop := W.heap[b]? = some (.cells #[.bool t] 4 (0, 0))
def oneS (H : List TabS.Hd) (o i : Int) (k : Nat) : Prop := (TabS.hdAt H k).n = o ∧ ((TabS.hdAt H k).i : Int) = i
structure FinI (wA : World) (b : Nat) (H : List TabS.Hd) (o i : Int) (pre : List (Fin H.length)) (W : World) : Prop where
 bx : BoolAt W b true
 all : ∀ x ∈ pre, oneS H o i x.1
 but : OneT b wA W
structure FinX (wA : World) (b : Nat) (H : List TabS.Hd) (o i : Int) (c : Code) (pre : List (Fin H.length)) (W : World) : Prop where
 c : c = .exit 0
 bx : BoolAt W b false
 no : ∃ x ∈ pre, ¬ oneS H o i x.1
 but : OneT b wA W
theorem grown_blk {A C : World} {row : Option Nat} {b B : Nat} (hg : A.grownBy C row) (hr : ∀ r, row = some r → B ≤ r ∧ ∃ o : Obj, A.heap[r]? = some o ∧ o.isCells = false) (hb : b < A.heap.size) (hB : b < B) : C.heap[b]? = A.heap[b]? :=
 hg.block b hb (fun e => by have := (hr b e.symm).1; omega)
theorem FinI.from {wA : World} {b : Nat} {H : List TabS.Hd} {o i : Int} (hb : b < wA.heap.size) : OwnFrom wA.heap.size (FinI wA b H o i) := by
 intro s A C row h hg hr
 exact ⟨(grown_blk hg hr (Nat.lt_of_lt_of_le hb h.but.size) hb).trans h.bx, h.all, h.but.grown hg (fun r e => (hr r e).1)⟩
theorem FinX.from {wA : World} {b : Nat} {H : List TabS.Hd} {o i : Int} (hb : b < wA.heap.size) (c : Code) : OwnFrom wA.heap.size (FinX wA b H o i c) := by
 intro s A C row h hg hr
 exact ⟨h.c, (grown_blk hg hr (Nat.lt_of_lt_of_le hb h.but.size) hb).trans h.bx, h.no, h.but.grown hg (fun r e => (hr r e).1)⟩
theorem put_ne {W : World} {l k : Nat} {o : Obj} (h : k ≠ l) : (W.putObj l o).heap[k]? = W.heap[k]? := by
 simp [World.putObj, Array.getElem?_setIfInBounds, h.symm]
theorem kpu_put {B0 N p q l : Nat} {W : World} {o o' : Obj} (hl : N ≤ l) (h0 : B0 ≤ l) (hp : p ≠ l) (hq : q ≠ l) (ho : W.heap[l]? = some o) (hc : o.isCells = false) : KpU B0 N p q W (W.putObj l o') := by
 refine ⟨rfl, rfl, rfl, by simp, fun k hk => put_ne (by omega), put_ne hp, put_ne hq, fun k j v hk hv => ?_⟩
 by_cases e : k = l
 ·subst e
  cases o <;> simp_all [World.cell?, Obj.isCells]
 ·exact (World.cell?_of_block (a := ⟨k, j, none⟩) (put_ne e)).trans hv
theorem bool_set {W : World} {b : Nat} {x : Bool} (y : Bool) (h : BoolAt W b x) : BoolAt (W.setCell ⟨b, 0, none⟩ (.bool y)) b y := by
 have := Go.heap_setCell_same W b 0 _ _ (.bool y) h
 exact this
theorem hfinal_in {W0 : World} (h : Hd W0 s hb rhb n L M l l2 S w) (hT0 : CX.TabG W0) (o i : Int) (hon : fullN L o i = 0) (hg : (gt L o i).e ≤ 9223372036854775807) (hHe : ∀ k, (TabS.hdAt (heldA L) k).c.e ≤ 9223372036854775807) (hl : L.length < 1000000) (hn : (heldA L).length < 1000000) :
  CallsIn Fence.wide 3 Tryz.prog 26 #[.pointer (some ⟨hb, 0, none⟩), slV o i] w fun e w' => e = .returned (.bool (onlyB (heldA L) o i (gt L o i))) ∧ Below w.heap.size w w' := by
 have hb1 : Below w.heap.size w (w.alloc (slO o i)) := bal (Below.refl _ _) _
 obtain ⟨w1, hw1⟩ : ∃ y, y = w.alloc (slO o i) := ⟨_, rfl⟩
 have hs1 : w1.heap[w.heap.size]? = some (.cells #[.int .i64 o, .int .i64 i] 30 (0, 0)) := by rw [hw1]; exact heap_alloc_new w _
 rw [← hw1] at hb1
 have H1 := hid (h.call hb1)
 have HB1 := hid hb1
 have HS1 := hid hs1
 have HG := hid (hfull H1.out o i)
 rw [hon] at HG
 have HSEQ := hid (fun (p q : Nat) (w0 : World) (h : Hd W0 s hb rhb n L M l l2 S w0) hp hq => alike1_seq (W := W0) 1 p q (gt L o i) w0 h hT0 hp hq hg hHe hl hn)
 obtain ⟨fb, hfb⟩ : ∃ y, y = onlyB (heldA L) o i (gt L o i) := ⟨_, rfl⟩
 rw [← hfb]
 generalize gt L o i = c at *
 generalize heldA L = H at *
 have HFB := hid hfb
 have HW := hid hw1
 have HWH := hid (show W0.heap.size ≤ w.heap.size from h.below.size)
 obtain ⟨k0, k1⟩ := slot_cells hs1
 clear h hb1 hw1 hs1 hT0 hg hHe hl hn hfb hon
 obtain ⟨ca, cb, cx, cd, ce, cf, cg, ch⟩ := c
 refine callsIn_of_wp_marks Tryz.func26 rfl trivial ?_ rfl
 simp only [Tryz.ntmps26, List.size_toArray, List.length_cons, List.length_nil, Nat.reduceAdd, Nat.reduceSub, Array.replicate_succ, Array.replicate_zero, List.push_toArray, List.append_toArray, List.nil_append, List.cons_append]
 gi_wp2
 refine scope_wide ?_
 gi_wp2_with fail
 refine ⟨trivial, ?_⟩
 gi_at_call 69
 rw [← HW.out]
 refine (callsIn_wide.2 HG.out).mono ?_
 rintro e w2 ⟨rfl, hb2⟩
 have HB2 := hid hb2
 clear hb2 k0 k1
 gi_wp2_with fail
 obtain ⟨w4, hw4⟩ : ∃ y, y = (w2.alloc (.cells #[.int .i64 ca, .int .i64 cb, .int .i64 cx, .int .u64 cd, .int .i64 ce, .int .i64 cf, .int .i64 cg, .int .i64 ch] 33)).alloc (.cells #[.bool true] 4) := ⟨_, rfl⟩
 have hb4 : Below w1.heap.size w1 w4 := hw4 ▸ bal (bal HB2.out _) _
 have hsz4 : w4.heap.size = w2.heap.size + 2 := by rw [hw4]; simp
 have hc4 : w4.heap[w2.heap.size]? = some (.cells (⟨ca, cb, cx, cd, ce, cf, cg, ch⟩ : Cp).L.toArray 33 (0, 0)) := by rw [hw4]; exact (Below.heap_alloc _ _ _ (by simp)).trans (heap_alloc_new w2 _)
 have hf4 : w4.heap[w2.heap.size + 1]? = some (.cells #[.bool true] 4 (0, 0)) := by
  have := heap_alloc_new (w2.alloc (.cells #[.int .i64 ca, .int .i64 cb, .int .i64 cx, .int .u64 cd, .int .i64 ce, .int .i64 cf, .int .i64 cg, .int .i64 ch] 33)) (.cells #[.bool true] 4)
  rw [World.size_alloc] at this
  rw [hw4]
  exact this
 have hs4 := (hb4.block _ (ags HS1.out).1).trans HS1.out
 rw [← hw4]
 have HB4 := hid (HB1.out.trans (hb4.mono HB1.out.size))
 have H4 := hid (H1.out.call hb4)
 have HC4 := hid hc4
 have HF4 := hid hf4
 have HS4 := hid hs4
 have HZ4 := hid (show w1.heap.size ≤ w2.heap.size from HB2.out.size)
 obtain ⟨x0, x1, x2, x3, x4, x5, x6, x7⟩ := cap_cells hc4
 simp only [] at x0 x1 x2 x3 x4 x5 x6 x7
 obtain ⟨N2, hN2⟩ : ∃ y, y = w2.heap.size := ⟨_, rfl⟩
 rw [← hN2] at hsz4 HC4 HF4 HZ4 x0 x1 x2 x3 x4 x5 x6 x7
 rw [← hN2]
 clear hw4 hb4 hc4 hf4 hs4 HB2 hN2
 refine wpIn_label ?_
 gi_wp2_with (refine ⟨trivial, ?_⟩; (gi_at_call 70; refine (callsIn_wide.2 (halikef w4 hb ⟨ca, cb, cx, cd, ce, cf, cg, ch⟩)).mono ?_; rintro e w5 ⟨rfl, rfl⟩))
 obtain ⟨bA, pA, qA, sA⟩ := aliW_boxes w4 hb ⟨ca, cb, cx, cd, ce, cf, cg, ch⟩
 obtain ⟨wA, hwA⟩ : ∃ y, y = aliW w4 hb ⟨ca, cb, cx, cd, ce, cf, cg, ch⟩ := ⟨_, rfl⟩
 rw [← hwA] at bA pA qA sA
 rw [← hwA]
 rw [hsz4] at pA qA sA
 have HA := hid (H4.out.call bA)
 have FA : BoolAt wA (N2 + 1) true := (bA.block _ (by omega)).trans HF4.out
 have SA : wA.heap[w.heap.size]? = some (.cells #[.int .i64 o, .int .i64 i] 30 (0, 0)) := (bA.block _ (ags HS4.out).1).trans HS4.out
 have HSA := hid SA
 have hzw : w.heap.size < N2 := by have := (ags HS1.out).1; have := HZ4.out; omega
 have HBA := hid (HB4.out.trans (bA.mono HB4.out.size))
 have hWN : W0.heap.size ≤ N2 := by have := HWH.out; omega
 have HSQ := hid (HSEQ.out (N2 + 2) (N2 + 2 + 1) wA HA.out pA qA)
 clear hwA x0 x1 x2 x3 x4 x5 x6 x7 bA pA qA SA HSEQ hsz4
 refine wpIn_rangeFunc_ownH (α := Fin H.length) rfl (by decide) (gf := 105) (lb := #[.pointer (some ⟨N2 + 2, 0, none⟩), .pointer (some ⟨N2 + 2 + 1, 0, none⟩)]) rfl trivial (enters_of Tryz.func105 (by kernel_rfl) rfl)
  (encs := fun x : Fin H.length => #[slV (TabS.hdAt H x.1).n (TabS.hdAt H x.1).i]) (Kp := KpU W0.heap.size wA.heap.size (N2 + 2) (N2 + 2 + 1)) (S := fun xs => ∀ x, x ∈ xs ↔ likeP ⟨ca, cb, cx, cd, ce, cf, cg, ch⟩ H x.1 = true) (Sp := fun pre => ∀ x ∈ pre, likeP ⟨ca, cb, cx, cd, ce, cf, cg, ch⟩ H x.1 = true) (N := H.length) (w0 := wA) HSQ.out
  (fun h k => h.trans k) ?hKb (Below.refl _ _) (fun _ => rfl) (FinI wA (N2 + 1) H o i) (FinX wA (N2 + 1) H o i) (FinI.from (by omega)) (fun c => FinX.from (by omega) c) ⟨FA, (fun _ h => absurd h List.not_mem_nil), OneT.refl _ _⟩
  (fun x a' W => ∃ d, a' = { tmps := #[.pointer (some ⟨hb, 0, none⟩), slV o i, undef, .pointer (some ⟨w.heap.size, 0, none⟩), .bool false, .pointer (some ⟨N2, 0, none⟩), .int .i64 0, .pointer (some ⟨N2 + 1, 0, none⟩), .pointer (some ⟨d, 0, none⟩), .tuple #[(⟨ca, cb, cx, cd, ce, cf, cg, ch⟩ : Cp).V, .int .i64 0], .pointer (some ⟨hb, 0, none⟩), .agg #[.int .i64 o, .int .i64 i], .tuple #[(⟨ca, cb, cx, cd, ce, cf, cg, ch⟩ : Cp).V, .int .i64 0], (⟨ca, cb, cx, cd, ce, cf, cg, ch⟩ : Cp).V, .int .i64 0, .int .i64 0, .bool false, .pointer (some ⟨hb, 0, none⟩), .agg #[.int .i64 ca, .int .i64 cb, .int .i64 cx, .int .u64 cd, .int .i64 ce, .int .i64 cf, .int .i64 cg, .int .i64 ch], .func (.func 105) #[] #[.pointer (some ⟨N2 + 2, 0, none⟩), .pointer (some ⟨N2 + 2 + 1, 0, none⟩)], slV (TabS.hdAt H x.1).n (TabS.hdAt H x.1).i, undef, undef, undef, undef], defers := [] } ∧ W.heap[d]? = some (.cells #[.int .i64 (TabS.hdAt H x.1).n, .int .i64 (TabS.hdAt H x.1).i] 30 (0, 0)) ∧ N2 + 4 ≤ d) ?hAx
  ?hassign ?hbody ?hdone ?hstop
 case hKb =>
  intro W l o o' hl ho hc _
  exact kpu_put (by omega) (by omega) (by omega) (by omega) ho hc
 case hAx =>
  rintro x a' _ A C row ⟨d, h1, h2, h3⟩ hg hr
  refine ⟨d, h1, (hg.block d (ags h2).1 (fun e => ?_)).trans h2, h3⟩
  obtain ⟨-, o, ho, hc⟩ := hr d e.symm
  rw [show A.heap[d]? = _ from h2] at ho
  cases ho
  cases hc
 case hassign =>
  intro l pre x W K hI hK
  gi_wp2
  have tw : OneT (N2 + 1) W (W.alloc (.cells #[.int .i64 (TabS.hdAt H x.1).n, .int .i64 (TabS.hdAt H x.1).i] 30)) := OneT.of_below (bal (Below.refl _ _) _)
  have hz := hI.but.size
  exact hK _ _ (tw.keeps (by omega)) (tw.kpu (by omega) (by omega) (by omega) (by omega) (by omega) (by omega) (by omega)) ⟨(Below.heap_alloc _ _ _ (by omega)).trans hI.bx, hI.all, hI.but.trans tw⟩ ⟨W.heap.size, rfl, World.alloc_heap_new _ _, by omega⟩
 case hbody =>
  rintro l pre x a' W hl hr hI ⟨d, rfl, hd, hd4⟩ hlen
  have hz := hI.but.size
  have hs := (hI.but.block w.heap.size (by omega) (by omega)).trans HSA.out
  obtain ⟨k0, k1⟩ := slot_cells hs
  obtain ⟨e0, e1⟩ := slot_cells hd
  have f0 : W.cell? ⟨N2 + 1, 0, none⟩ = some (.bool true) := cell_cur (cur := [.bool true]) hI.bx 0
  have g0 := cap_froz hI.bx 0
  have hdl : d < W.heap.size := (ags hd).1
  have hq := TabS.eqSl (TabS.hdAt H x.1).n (TabS.hdAt H x.1).i o i
  have HI := hid hI
  have HO : Hid (oneS H o i x.1 ↔ ((TabS.hdAt H x.1).n = o ∧ ((TabS.hdAt H x.1).i : Int) = i)) := hid Iff.rfl
  have hall : oneS H o i x.1 → ∀ y ∈ pre ++ [x], oneS H o i y.1 := fun h y hy => by
   rcases List.mem_append.1 hy with hy | hy
   ·exact HI.out.all y hy
   ·rw [List.mem_singleton] at hy
    rw [hy]; exact h
  have HALL := hid hall
  have HKP : Hid (∀ V, OneT (N2 + 1) W V → KeepsFrom wA.heap.size W V ∧ KpU W0.heap.size wA.heap.size (N2 + 2) (N2 + 2 + 1) W V) := hid (fun V h => ⟨h.keeps (by omega), h.kpu (by omega) (by omega) (by omega) (by omega) (by omega) (by omega) (by omega)⟩)
  clear hI hs hd hall
  generalize (TabS.hdAt H x.1).n = xn at *
  generalize ((TabS.hdAt H x.1).i : Int) = xi at *
  by_cases h1 : xn = o ∧ xi = i
  ·have hb : (xn == o && xi == i) = true := by simp [h1]
   have hon := HO.out.2 h1
   have HON := hid hon
   clear h1 hon
   gi_wp2
   exact ⟨(HKP.out _ (OneT.refl _ _)).1, (HKP.out _ (OneT.refl _ _)).2, HI.out.bx, HALL.out HON.out, HI.out.but⟩
  ·have hb : (xn == o && xi == i) = false := by
    rcases Decidable.not_and_iff_or_not.1 h1 with q | q
    ·simp [q]
    ·simp [q]
   have HON := hid (fun h => h1 (HO.out.1 h))
   clear h1
   gi_wp2
   have tw := (OneT.refl (N2 + 1) W).set 0 (.bool false)
   exact ⟨(HKP.out _ tw).1, rfl, bool_set false HI.out.bx, ⟨x, List.mem_append_right _ List.mem_cons_self, HON.out⟩, HI.out.but.trans tw⟩
 case hdone =>
  rintro D xs W hD hS hI hK
  have hz := hI.but.size
  have f0 : W.cell? ⟨N2 + 1, 0, none⟩ = some (.bool true) := cell_cur (cur := [.bool true]) hI.bx 0
  have hfb : fb = true := by
   rw [HFB.out]
   unfold onlyB
   rw [List.all_eq_true]
   intro x _
   cases hx : likeP ⟨ca, cb, cx, cd, ce, cf, cg, ch⟩ H x.1 with
   | false => rfl
   | true => simpa [oneS] using hI.all x ((hS x).2 hx)
  have HBW := hid (HBA.out.trans (hI.but.below (by omega) (by omega)))
  have HFT := hid hfb
  clear hI hS hfb
  gi_wp2
  rw [Exit.noGoto_ret]
  refine ⟨by simp, .inl ⟨_, _, rfl, run_takeDeferred hK, ?_⟩⟩
  exact ⟨_, results_tmp rfl _ _ _, (by rw [HFT.out]; rfl), ⟨HBW.out.os, HBW.out.tape, HBW.out.output, by simpa using HBW.out.size, fun k hk => (put_ne (by omega)).trans (HBW.out.block k hk)⟩⟩
 case hstop =>
  rintro D c pre W hD hSp hX hK
  have hz := hX.but.size
  have f0 : W.cell? ⟨N2 + 1, 0, none⟩ = some (.bool false) := cell_cur (cur := [.bool false]) hX.bx 0
  have hfb : fb = false := by
   rw [HFB.out]
   unfold onlyB
   rw [List.all_eq_false]
   obtain ⟨x, hx, hno⟩ := hX.no
   refine ⟨x, List.mem_finRange x, ?_⟩
   rw [hSp x hx]
   simpa [oneS] using hno
  have HBW := hid (HBA.out.trans (hX.but.below (by omega) (by omega)))
  have HFT := hid hfb
  obtain rfl := hX.c
  clear hX hSp hfb
  gi_wp2
  rw [Exit.noGoto_ret]
  refine ⟨by simp, .inl ⟨_, _, rfl, run_takeDeferred hK, ?_⟩⟩
  exact ⟨_, results_tmp rfl _ _ _, (by rw [HFT.out]; rfl), ⟨HBW.out.os, HBW.out.tape, HBW.out.output, by simpa using HBW.out.size, fun k hk => (put_ne (by omega)).trans (HBW.out.block k hk)⟩⟩
end HdS
end
section
namespace HdS
open TabS (Cp Sn zC mayC sizS getR getN Two Pr FootP foot_ltP foot_ltR SameS AddRel addSR setN setM rowsS hasS dropSR dropSL heldA hdsC)
variable {W w w' : World} {s : Sh} {hb rhb n n' : Nat} {L M L' M' : List Sn} {l l2 l' l2' : List Nod} {S : Nat → Prop}
theorem hfinal (h : Hd W s hb rhb n L M l l2 S w) (hT0 : CX.TabG W) (o i : Int) (hg : (gt L o i).e ≤ 9223372036854775807) (hHe : ∀ k, (TabS.hdAt (heldA L) k).c.e ≤ 9223372036854775807) (hl : L.length < 1000000) (hn : (heldA L).length < 1000000) :
  Calls Tryz.prog 26 #[.pointer (some ⟨hb, 0, none⟩), slV o i] w fun e w' => e = .returned (.bool (finB L o i)) ∧ Below w.heap.size w w' := by
 unfold finB
 by_cases hon : fullN L o i = 0
 ·rw [decide_eq_true hon, Bool.true_and]
  exact callsIn_wide.1 (hfinal_in h hT0 o i hon hg hHe hl hn)
 ·rw [decide_eq_false hon, Bool.false_and]
  exact hfinal_no h o i hon
def okB (H : List TabS.Hd) (o i : Int) (c : Cp) (k : Nat) : Bool := !likeP c H k || decide ((TabS.hdAt H k).n = o ∧ ((TabS.hdAt H k).i : Int) = i)
def rfinB (M : List Sn) (o i : Int) : Bool := decide ((gt M o i).a ≠ 0) && onlyB (heldA M) o i (gt M o i)
theorem onlyB_all {H : List TabS.Hd} {o i : Int} {c : Cp} : onlyB H o i c = true ↔ ∀ k, k < H.length → okB H o i c k = true := by
 unfold onlyB
 rw [List.all_eq_true]
 exact ⟨fun h k hk => h ⟨k, hk⟩ (List.mem_finRange _), fun h x _ => h x.1 x.2⟩
theorem ldM {w : World} {g k : Nat} {n i : Int} (h0 : w.cell? ⟨g, k, none⟩ = some (.int .i64 n)) (h1 : w.cell? ⟨g, k + 1, none⟩ = some (.int .i64 i)) : (loadVar 30 ⟨g, k, none⟩).run Tryz.prog w = .ok (slV n i) w := by
 go_simp
theorem ldN {w : World} {g k : Nat} {c : Cp} (h0 : w.cell? ⟨g, k, none⟩ = some (.int .i64 c.a)) (h1 : w.cell? ⟨g, k + 1, none⟩ = some (.int .i64 c.b)) (h2 : w.cell? ⟨g, k + 2, none⟩ = some (.int .i64 c.c)) (h3 : w.cell? ⟨g, k + 3, none⟩ = some (.int .u64 c.d)) (h4 : w.cell? ⟨g, k + 4, none⟩ = some (.int .i64 c.e)) (h5 : w.cell? ⟨g, k + 5, none⟩ = some (.int .i64 c.f)) (h6 : w.cell? ⟨g, k + 6, none⟩ = some (.int .i64 c.g)) (h7 : w.cell? ⟨g, k + 7, none⟩ = some (.int .i64 c.h)) : (loadVar 33 ⟨g, k, none⟩).run Tryz.prog w = .ok c.V w := by
 go_simp
theorem rfinal (h : Hd W s hb rhb n L M l l2 S w) (hA : Asc (rowsS M)) (o ii : Int) (hl : M.length < 1000000) (hn : (heldA M).length < 1000000) :
  Calls Tryz.prog 50 #[.pointer (some ⟨rhb, 0, none⟩), slV o ii] w fun e w' => e = .returned (.bool (rfinB M o ii)) ∧ Below w.heap.size w w' := by
 have hb1 : Below w.heap.size w (w.alloc (slO o ii)) := bal (Below.refl _ _) _
 obtain ⟨w1, hw1⟩ : ∃ y, y = w.alloc (slO o ii) := ⟨_, rfl⟩
 have hs1 : w1.heap[w.heap.size]? = some (.cells #[.int .i64 o, .int .i64 ii] 30 (0, 0)) := by rw [hw1]; exact heap_alloc_new w _
 rw [← hw1] at hb1
 have H1 := hid (h.call hb1)
 have HB1 := hid hb1
 have HS1 := hid hs1
 have HG := hid (rcap H1.out hA hl o ii)
 have HUS := hid (fun (v : World) (hv : Hd W s hb rhb n L M l l2 S v) => hv.bo.rused hl)
 obtain ⟨fb, hfb⟩ : ∃ y, y = rfinB M o ii := ⟨_, rfl⟩
 rw [← hfb]
 unfold rfinB at hfb
 generalize gt M o ii = c at *
 generalize heldA M = H at *
 have HFB := hid hfb
 have HW := hid hw1
 have HN := hid hn
 obtain ⟨k0, k1⟩ := slot_cells hs1
 clear h hb1 hw1 hs1 hA hl hn hfb
 obtain ⟨ca, cb, cx, cd, ce, cf, cg, ch⟩ := c
 go_enter Tryz.func50, Tryz.ntmps50
 go_upto_region 1 with fail
 rw [show (w.alloc (slO o ii)) = w1 from HW.out.symm]
 go_upto_region 2 with (go_at_call 81; (with_reducible refine HG.out.mono ?_); rintro e w2 ⟨rfl, hb2⟩; have HB2 := hid hb2; clear hb2)
 obtain ⟨w3, hw3⟩ : ∃ y, y = w2.alloc (.cells #[.int .i64 ca, .int .i64 cb, .int .i64 cx, .int .u64 cd, .int .i64 ce, .int .i64 cf, .int .i64 cg, .int .i64 ch] 33) := ⟨_, rfl⟩
 have hb3 : Below w1.heap.size w1 w3 := hw3 ▸ bal HB2.out _
 have hx3 : w3.heap[w2.heap.size]? = some (.cells (⟨ca, cb, cx, cd, ce, cf, cg, ch⟩ : Cp).L.toArray 33 (0, 0)) := by rw [hw3]; exact heap_alloc_new w2 _
 have HX3 := hid hx3
 have HB3 := hid (HB1.out.trans (hb3.mono HB1.out.size))
 have HS3 := hid ((hb3.block _ (ags HS1.out).1).trans HS1.out)
 have H3 := hid (H1.out.call hb3)
 have HU3 := hid (HUS.out w3 H3.out)
 obtain ⟨r0, -, r2⟩ := H3.out.rc
 rw [← hw3]
 generalize w2.heap.size = xB at *
 clear hw3 hb3 hx3 k0 k1 HG H1 HB1 HB2 HS1 HUS
 go_upto_region 3 with (go_at_call 48; (with_reducible refine HU3.out.mono ?_); rintro e w4 ⟨r, rfl, hr, hb4⟩; obtain ⟨ra, rc, rfl, hrc, hra⟩ := TabS.hs_of hr; have HB4 := hid hb4; have HRA := hid hra; clear hr hb4 hra)
 have HS4 := hid ((HB4.out.block _ (ags HS3.out).1).trans HS3.out)
 have HX4 := hid ((HB4.out.block _ (ags HX3.out).1).trans HX3.out)
 have HW4 := hid (HB3.out.trans (HB4.out.mono HB3.out.size))
 clear r0 r2 HU3 H3 HS3 HX3 HB3 HB4
 go_wp2
 go_loopw [7] (fun i wr => ∃ k : Nat, k ≤ H.length ∧ i = .int .i64 k ∧ Hid (Below w4.heap.size w4 wr ∧ ∀ j, j < k → okB H o ii ⟨ca, cb, cx, cd, ce, cf, cg, ch⟩ j = true)) (fun i _ => H.length - (intOf i).toNat)
 case atStart => exact ⟨0, by omega, rfl, hid ⟨Below.refl _ _, fun j hj => absurd hj (by omega)⟩⟩
 case round =>
  obtain ⟨k, hk, rfl, HP⟩ := hrel
  by_cases hlt : k < H.length
  ·have hltI : (k : Int) < H.length := by omega
   have hat : TabS.hdAt H k = H[k] := by unfold TabS.hdAt; rw [List.getElem?_eq_getElem hlt]; rfl
   obtain ⟨g, rfl, hg1, hg2, hg3⟩ := HRA.out k hlt
   have hrow := hg3 k _ (List.getElem?_eq_getElem hlt)
   have HOK : Hid (okB H o ii ⟨ca, cb, cx, cd, ce, cf, cg, ch⟩ k = (!sameC (TabS.hdAt H k).c ⟨ca, cb, cx, cd, ce, cf, cg, ch⟩ || decide ((TabS.hdAt H k).n = o ∧ ((TabS.hdAt H k).i : Int) = ii))) := hid rfl
   rw [← hat] at hrow
   generalize TabS.hdAt H k = x at *
   obtain ⟨xn, xi, ⟨xa, xb, xx, xd, xe, xf, xg, xh⟩⟩ := x
   simp only [] at HOK
   have hz : ∀ v, Below wr.heap.size wr v → ∀ (j : Nat) (u : Value), (TabS.Hd.L ⟨xn, xi, ⟨xa, xb, xx, xd, xe, xf, xg, xh⟩⟩)[j]? = some u → v.cell? ⟨g, k * 10 + j, none⟩ = some u := fun v hv j u hu => (World.cell?_of_block (a := ⟨g, k * 10 + j, none⟩) (((hv.block g (Nat.lt_of_lt_of_le hg2 HP.out.1.size))).trans (HP.out.1.block g hg2))).trans (hrow j u hu)
   have RS := hid (fun v (hv : KeptQ wr.heap.size wr v) => ldM (w := v) (g := g) (k := k * 10) (n := xn) (i := xi) (hz v hv.1 0 _ rfl) (hz v hv.1 1 _ rfl))
   have RC := hid (fun v (hv : KeptQ wr.heap.size wr v) => ldN (w := v) (g := g) (k := k * 10 + 2) (c := ⟨xa, xb, xx, xd, xe, xf, xg, xh⟩) (hz v hv.1 2 _ rfl) (hz v hv.1 3 _ rfl) (hz v hv.1 4 _ rfl) (hz v hv.1 5 _ rfl) (hz v hv.1 6 _ rfl) (hz v hv.1 7 _ rfl) (hz v hv.1 8 _ rfl) (hz v hv.1 9 _ rfl))
   have RB := hid (fun v (hv : KeptQ wr.heap.size wr v) => ldS ((hv.1.block _ (Nat.lt_of_lt_of_le (ags HS4.out).1 HP.out.1.size)).trans ((HP.out.1.block _ (ags HS4.out).1).trans HS4.out)))
   have RD := hid (fun v (hv : KeptQ wr.heap.size wr v) => ldC ((hv.1.block _ (Nat.lt_of_lt_of_le (ags HX4.out).1 HP.out.1.size)).trans ((HP.out.1.block _ (ags HX4.out).1).trans HX4.out)))
   have HNE : Hid (∀ v, (binOp .neq 30 (.agg #[.int .i64 xn, .int .i64 (xi : Int)]) (.agg #[.int .i64 o, .int .i64 ii])).run Tryz.prog v = .ok (.bool (!(xn == o && (xi : Int) == ii))) v) := hid (fun v => TabS.neSl xn xi o ii v)
   obtain ⟨sm, hsm⟩ : ∃ y, y = sameC ⟨xa, xb, xx, xd, xe, xf, xg, xh⟩ ⟨ca, cb, cx, cd, ce, cf, cg, ch⟩ := ⟨_, rfl⟩
   have RA : Hid (∀ v, Calls Tryz.prog 86 #[Cp.V ⟨xa, xb, xx, xd, xe, xf, xg, xh⟩, Cp.V ⟨ca, cb, cx, cd, ce, cf, cg, ch⟩] v fun e w' => e = .returned (.bool sm) ∧ Below v.heap.size v w') := hid (fun v => by rw [hsm]; exact ralike v _ _)
   rw [← hsm] at HOK
   have hkb : k + 1 < 4000000 := by have := HN.out; omega
   have HLT := hid hlt
   clear hsm hz hrow hat hg1 hg2 hg3
   have HNX : Hid (∀ v, Below w4.heap.size w4 v → okB H o ii ⟨ca, cb, cx, cd, ce, cf, cg, ch⟩ k = true → Below w4.heap.size w4 v ∧ ∀ j, j < k + 1 → okB H o ii ⟨ca, cb, cx, cd, ce, cf, cg, ch⟩ j = true) := hid (fun v hv hk1 => ⟨hv, fun j hj => by
    rcases Nat.lt_or_ge j k with q | q
    ·exact HP.out.2 j q
    ·obtain rfl : j = k := by omega
     exact hk1⟩)
   go_upto_region 6 with fail
   by_cases h1 : xn = o ∧ (xi : Int) = ii
   ·have hb : (!(xn == o && (xi : Int) == ii)) = false := by simp [h1]
    have hok : okB H o ii ⟨ca, cb, cx, cd, ce, cf, cg, ch⟩ k = true := by rw [HOK.out, decide_eq_true h1, Bool.or_true]
    have HOK2 := hid hok
    rw [hb] at HNE
    have hne := HNE.out
    clear h1 hb hok HOK
    refine wp_region_keptQ wr.heap.size wr (by kernel_rfl) (by kernel_rfl) (KeptQ.refl (Nat.le_refl _)) ?_
    repeat (first
     | go_big_quiet_skip
     | (go_big_quiet_want; first
      | (refine quietV 30 _ rfl ⟨g, k * 10, none⟩ rfl _ RS.out ?_; simp only [Act.put, List.setIfInBounds_toArray, List.set_cons_zero, List.set_cons_succ]; go_big_quiet_on)
      | (refine quietV 30 _ rfl ⟨w.heap.size, 0, none⟩ rfl _ RB.out ?_; simp only [Act.put, List.setIfInBounds_toArray, List.set_cons_zero, List.set_cons_succ]; go_big_quiet_on)
      | (refine quietV 33 _ rfl ⟨g, k * 10 + 2, none⟩ rfl _ RC.out ?_; simp only [Act.put, List.setIfInBounds_toArray, List.set_cons_zero, List.set_cons_succ]; go_big_quiet_on)
      | (refine quietV 33 _ rfl ⟨xB, 0, none⟩ rfl _ RD.out ?_; simp only [Act.put, List.setIfInBounds_toArray, List.set_cons_zero, List.set_cons_succ]; go_big_quiet_on)
      | (go_big_quiet_op; first
       | go_big_quiet_on
       | (refine ⟨_, fun _ _ => rfl, ?_⟩; go_big_quiet_on)
       | (refine ⟨_, fun w _ => HNE.out w, ?_⟩; go_big_quiet_on)
       | go_big_quiet_call ((intro hw; first
        | (go_at_call 86; (with_reducible refine (RA.out _).mono ?_); rintro e w7 ⟨rfl, hb7⟩; exact ⟨rfl, hw.call hb7⟩))))))
    refine wpQuiet_nil ?_
    intro w5 hq
    have HQ := hid (HP.out.1.trans (hq.1.mono HP.out.1.size))
    clear hq RS RB RC RD
    go_wp2
    go_roundw
    case rel => exact ⟨k + 1, by omega, by go_num, hid (HNX.out _ HQ.out HOK2.out)⟩
    case measure => first | (simp [intOf]; done) | (simp [intOf]; omega)
   ·have hb : (!(xn == o && (xi : Int) == ii)) = true := by
     rcases Decidable.not_and_iff_or_not.1 h1 with q | q
     ·simp [q]
     ·simp [q]
    have hok : okB H o ii ⟨ca, cb, cx, cd, ce, cf, cg, ch⟩ k = !sm := by rw [HOK.out, decide_eq_false h1, Bool.or_false]
    have HOK2 := hid hok
    rw [hb] at HNE
    have hne := HNE.out
    clear h1 hb hok HOK
    cases sm
    ·skip
     refine wp_region_keptQ wr.heap.size wr (by kernel_rfl) (by kernel_rfl) (KeptQ.refl (Nat.le_refl _)) ?_
     repeat (first
      | go_big_quiet_skip
      | (go_big_quiet_want; first
       | (refine quietV 30 _ rfl ⟨g, k * 10, none⟩ rfl _ RS.out ?_; simp only [Act.put, List.setIfInBounds_toArray, List.set_cons_zero, List.set_cons_succ]; go_big_quiet_on)
       | (refine quietV 30 _ rfl ⟨w.heap.size, 0, none⟩ rfl _ RB.out ?_; simp only [Act.put, List.setIfInBounds_toArray, List.set_cons_zero, List.set_cons_succ]; go_big_quiet_on)
       | (refine quietV 33 _ rfl ⟨g, k * 10 + 2, none⟩ rfl _ RC.out ?_; simp only [Act.put, List.setIfInBounds_toArray, List.set_cons_zero, List.set_cons_succ]; go_big_quiet_on)
       | (refine quietV 33 _ rfl ⟨xB, 0, none⟩ rfl _ RD.out ?_; simp only [Act.put, List.setIfInBounds_toArray, List.set_cons_zero, List.set_cons_succ]; go_big_quiet_on)
       | (go_big_quiet_op; first
        | go_big_quiet_on
        | (refine ⟨_, fun _ _ => rfl, ?_⟩; go_big_quiet_on)
        | (refine ⟨_, fun w _ => HNE.out w, ?_⟩; go_big_quiet_on)
        | go_big_quiet_call ((intro hw; first
         | (go_at_call 86; (with_reducible refine (RA.out _).mono ?_); rintro e w7 ⟨rfl, hb7⟩; exact ⟨rfl, hw.call hb7⟩))))))
     refine wpQuiet_nil ?_
     intro w5 hq
     have HQ := hid (HP.out.1.trans (hq.1.mono HP.out.1.size))
     clear hq RS RB RC RD
     go_wp2
     go_roundw
     case rel => exact ⟨k + 1, by omega, by go_num, hid (HNX.out _ HQ.out HOK2.out)⟩
     case measure => first | (simp [intOf]; done) | (simp [intOf]; omega)
    ·skip
     refine wp_region_keptQ wr.heap.size wr (by kernel_rfl) (by kernel_rfl) (KeptQ.refl (Nat.le_refl _)) ?_
     repeat (first
      | go_big_quiet_skip
      | (go_big_quiet_want; first
       | (refine quietV 30 _ rfl ⟨g, k * 10, none⟩ rfl _ RS.out ?_; simp only [Act.put, List.setIfInBounds_toArray, List.set_cons_zero, List.set_cons_succ]; go_big_quiet_on)
       | (refine quietV 30 _ rfl ⟨w.heap.size, 0, none⟩ rfl _ RB.out ?_; simp only [Act.put, List.setIfInBounds_toArray, List.set_cons_zero, List.set_cons_succ]; go_big_quiet_on)
       | (refine quietV 33 _ rfl ⟨g, k * 10 + 2, none⟩ rfl _ RC.out ?_; simp only [Act.put, List.setIfInBounds_toArray, List.set_cons_zero, List.set_cons_succ]; go_big_quiet_on)
       | (refine quietV 33 _ rfl ⟨xB, 0, none⟩ rfl _ RD.out ?_; simp only [Act.put, List.setIfInBounds_toArray, List.set_cons_zero, List.set_cons_succ]; go_big_quiet_on)
       | (go_big_quiet_op; first
        | go_big_quiet_on
        | (refine ⟨_, fun _ _ => rfl, ?_⟩; go_big_quiet_on)
        | (refine ⟨_, fun w _ => HNE.out w, ?_⟩; go_big_quiet_on)
        | go_big_quiet_call ((intro hw; first
         | (go_at_call 86; (with_reducible refine (RA.out _).mono ?_); rintro e w7 ⟨rfl, hb7⟩; exact ⟨rfl, hw.call hb7⟩))))))
     refine wpQuiet_nil ?_
     intro w5 hq
     have HQ := hid (HP.out.1.trans (hq.1.mono HP.out.1.size))
     clear hq RS RB RC RD
     have hfb : fb = false := by
      rw [HFB.out, Bool.and_eq_false_iff]
      refine .inr ?_
      cases q : onlyB H o ii ⟨ca, cb, cx, cd, ce, cf, cg, ch⟩ with
      | false => rfl
      | true =>
       have := onlyB_all.1 q k HLT.out
       rw [HOK2.out] at this
       cases this
     subst hfb
     go_wp2
     go_ret
     exact ⟨rfl, HW4.out.trans (HQ.out.mono HW4.out.size)⟩
  ·obtain rfl : k = H.length := by omega
   have hx := (HP.out.1.block _ (ags HX4.out).1).trans HX4.out
   obtain ⟨x0, -⟩ := cap_cells hx
   simp only [] at x0
   have hon : onlyB H o ii ⟨ca, cb, cx, cd, ce, cf, cg, ch⟩ = true := onlyB_all.2 HP.out.2
   have hfb : fb = decide (ca ≠ 0) := by rw [HFB.out, hon, Bool.and_true]
   have HF2 := hid hfb
   clear hfb hon hx
   go_wp2
   go_ret
   exact ⟨by rw [HF2.out]; first | rfl | (congr 2; simp; rfl) | (simp; rfl), HW4.out.trans (HP.out.1.mono HW4.out.size)⟩
end HdS
end
end Go.Proofs.YtchjfeafkmpmbaaGreatDoor
