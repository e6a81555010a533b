import Derived.Test.YtchjfeafkmpmbaaGreatDoorQkn
namespace Go.Proofs.YtchjfeafkmpmbaaGreatDoor
set_option linter.unusedVariables false
set_option linter.unusedSimpArgs false
set_option maxRecDepth 100000
set_option maxHeartbeats 8000000
open Lib (hid)
section
open Go.ChangeShapes Go.WideShapes Go.ChangeAt Go.RowKit Go.Shelf
namespace HdS
open TabS (Cp Sn zC mayC sizS getR getN Two Pr FootP foot_ltP foot_ltR SameS AddRel addSR setN setM rowsS hasS dropSR dropSL heldA hdsC)
variable {W w w' : World} {s : Sh} {hb rhb n n' : Nat} {L M L' M' : List Sn} {l l2 l' l2' : List Nod} {S : Nat → Prop}
theorem rchild_no (h : Hd W s hb rhb n L M l l2 S w) (hA : Asc (rowsS M)) (hl : M.length < 1000000) (o i p j : Int) (c : Cp) (hno : ¬ childOn M o i p j c) :
  Calls Tryz.prog 36 #[.pointer (some ⟨rhb, 0, none⟩), slV o i, slV p j, c.V] w fun e w' => e = .returned (.int .i64 (rchN M o i p j c)) ∧ Below w.heap.size w w' := by
 unfold rchN
 obtain ⟨ca, cb, cx, cd, ce, cf, cg, ch⟩ := c
 obtain ⟨hb1, hs1, ht1, hc1⟩ := tri_boxes w o i p j ⟨ca, cb, cx, cd, ce, cf, cg, ch⟩
 obtain ⟨w1, hw1⟩ : ∃ y, y = triW w o i p j ⟨ca, cb, cx, cd, ce, cf, cg, ch⟩ := ⟨_, rfl⟩
 rw [← hw1] at hb1 hs1 ht1 hc1
 have HB1 := hid hb1
 have HV1 := hid (Below.refl w1.heap.size w1)
 have HH := hid h
 have HXA := hid hs1
 have HXB := hid ht1
 have HXC := hid hc1
 have HE : Hid (∀ v, Below w1.heap.size w1 v → Hd W s hb rhb n L M l l2 S v) := hid (fun v hv => (h.call hb1).call hv)
 by_cases hga : gn M o i = 0
 ·by_cases hgb : gn M p j = 0
  ·rw [if_neg (fun e => e.elim (fun e => e hga) (fun e => e hgb))]
   cases hsm : someB ⟨ca, cb, cx, cd, ce, cf, cg, ch⟩ with
   | false =>
    rw [if_pos rfl]
    have HHa : Hid (∀ v, Below w1.heap.size w1 v → Calls Tryz.prog 79 #[.pointer (some ⟨s.srb, 0, none⟩), slV o i] v fun e w' => e = .returned (.bool true) ∧ Below v.heap.size v w') := hid (fun v hv => by have := rhas (HE.out v hv) hA hl o i; rw [decide_eq_true hga] at this; exact this)
    have HHb : Hid (∀ v, Below w1.heap.size w1 v → Calls Tryz.prog 79 #[.pointer (some ⟨s.srb, 0, none⟩), slV p j] v fun e w' => e = .returned (.bool true) ∧ Below v.heap.size v w') := hid (fun v hv => by have := rhas (HE.out v hv) hA hl p j; rw [decide_eq_true hgb] at this; exact this)
    have HSM : Hid (∀ v, Below w1.heap.size w1 v → Calls Tryz.prog 80 #[Cp.V ⟨ca, cb, cx, cd, ce, cf, cg, ch⟩] v fun e w' => e = .returned (.bool false) ∧ Below v.heap.size v w') := hid (fun v hv => by have := rsome v ⟨ca, cb, cx, cd, ce, cf, cg, ch⟩; rw [hsm] at this; exact this)
    have HW := hid hw1
    clear h hw1 hb1 hs1 ht1 hc1 hA hl
    clear hga hgb
    clear hsm hno
    go_enter Tryz.func36, Tryz.ntmps36
    go_upto_region 1 with fail
    rw [show (((w.alloc (slO o i)).alloc (slO p j)).alloc (.cells #[.int .i64 ca, .int .i64 cb, .int .i64 cx, .int .u64 cd, .int .i64 ce, .int .i64 cf, .int .i64 cg, .int .i64 ch] 33)) = w1 from HW.out.symm]
    have RP1 := hid (fun v (hv : KeptQ w1.heap.size w1 v) => (HE.out v (HV1.out.trans (hv.1.mono HV1.out.size))).rc.1)
    have RA1 := hid (fun v (hv : KeptQ w1.heap.size w1 v) => ldS (((HV1.out.trans (hv.1.mono HV1.out.size)).block _ (ags HXA.out).1).trans HXA.out))
    have RB1 := hid (fun v (hv : KeptQ w1.heap.size w1 v) => ldS (((HV1.out.trans (hv.1.mono HV1.out.size)).block _ (ags HXB.out).1).trans HXB.out))
    have RF10 := hid (fun v (hv : KeptQ w1.heap.size w1 v) => HHa.out v (HV1.out.trans (hv.1.mono HV1.out.size)))
    have RF11 := hid (fun v (hv : KeptQ w1.heap.size w1 v) => HHb.out v (HV1.out.trans (hv.1.mono HV1.out.size)))
    refine wp_region_keptQ w1.heap.size w1 (by kernel_rfl) (by kernel_rfl) (KeptQ.refl (Nat.le_refl _)) ?_
    repeat (first
     | go_big_quiet_skip
     | (go_big_quiet_want; first
      | (refine quietQ_load_cell 68 _ rfl ⟨rhb, 0, none⟩ rfl _ RP1.out _ Tryz.underlying68 rfl ?_; simp only [Act.put, List.setIfInBounds_toArray, List.set_cons_zero, List.set_cons_succ]; go_big_quiet_on)
      | (refine quietV 30 _ rfl ⟨w.heap.size, 0, none⟩ rfl _ RA1.out ?_; simp only [Act.put, List.setIfInBounds_toArray, List.set_cons_zero, List.set_cons_succ]; go_big_quiet_on)
      | (refine quietV 30 _ rfl ⟨w.heap.size + 1, 0, none⟩ rfl _ RB1.out ?_; simp only [Act.put, List.setIfInBounds_toArray, List.set_cons_zero, List.set_cons_succ]; go_big_quiet_on)
      | (go_big_quiet_op; first
       | go_big_quiet_on
       | (refine ⟨_, fun _ _ => rfl, ?_⟩; go_big_quiet_on)
       | go_big_quiet_call ((intro hw; first
        | (go_at_call 79; (with_reducible refine (RF10.out _ hw).mono ?_); rintro e w7 ⟨rfl, hb7⟩; exact ⟨rfl, hw.call hb7⟩)
        | (go_at_call 79; (with_reducible refine (RF11.out _ hw).mono ?_); rintro e w7 ⟨rfl, hb7⟩; exact ⟨rfl, hw.call hb7⟩))))))
    refine wpQuiet_nil ?_
    intro w2 hq1
    have HV2 := hid (HV1.out.trans (hq1.1.mono HV1.out.size))
    clear hq1 RP1 RA1 RB1 RF10 RF11
    obtain ⟨x0, x1, x2, x3, x4, x5, x6, x7⟩ := cap_cells (((HV2.out).block _ (ags HXC.out).1).trans HXC.out)
    simp only [] at x0 x1 x2 x3 x4 x5 x6 x7
    go_wp2_with (go_at_call 80; (with_reducible refine (HSM.out _ HV2.out).mono ?_); rintro e w3 ⟨rfl, hb3⟩; have HV3 := hid (HV2.out.trans (hb3.mono HV2.out.size)); clear hb3)
    go_ret
    exact ⟨rfl, HB1.out.trans (HV3.out.mono HB1.out.size)⟩
   | true =>
    rw [if_neg (by decide)]
    by_cases hta : (gt M o i).a = 0
    ·rw [if_pos hta]
     have HHa : Hid (∀ v, Below w1.heap.size w1 v → Calls Tryz.prog 79 #[.pointer (some ⟨s.srb, 0, none⟩), slV o i] v fun e w' => e = .returned (.bool true) ∧ Below v.heap.size v w') := hid (fun v hv => by have := rhas (HE.out v hv) hA hl o i; rw [decide_eq_true hga] at this; exact this)
     have HHb : Hid (∀ v, Below w1.heap.size w1 v → Calls Tryz.prog 79 #[.pointer (some ⟨s.srb, 0, none⟩), slV p j] v fun e w' => e = .returned (.bool true) ∧ Below v.heap.size v w') := hid (fun v hv => by have := rhas (HE.out v hv) hA hl p j; rw [decide_eq_true hgb] at this; exact this)
     have HSM : Hid (∀ v, Below w1.heap.size w1 v → Calls Tryz.prog 80 #[Cp.V ⟨ca, cb, cx, cd, ce, cf, cg, ch⟩] v fun e w' => e = .returned (.bool true) ∧ Below v.heap.size v w') := hid (fun v hv => by have := rsome v ⟨ca, cb, cx, cd, ce, cf, cg, ch⟩; rw [hsm] at this; exact this)
     have HCa : Hid (∀ v, Below w1.heap.size w1 v → Calls Tryz.prog 81 #[.pointer (some ⟨rhb, 0, none⟩), slV o i] v fun e w' => e = .returned ((gt M o i).V) ∧ Below v.heap.size v w') := hid (fun v hv => rcap (HE.out v hv) hA hl o i)
     clear hno
     have HW := hid hw1
     generalize gt M o i = t at *
     obtain ⟨ta, tb, tx, td, te, tf, tg, th⟩ := t
     simp only [TabS.Cp.V] at HCa
     have hfdt : ∀ w : World, (Instr.field 33 (.agg #[.int .i64 ta, .int .i64 tb, .int .i64 tx, .int .u64 td, .int .i64 te, .int .i64 tf, .int .i64 tg, .int .i64 th]) 0).run Tryz.prog w = .ok (.int .i64 ta) w := fun _ => by kernel_rfl
     clear h hw1 hb1 hs1 ht1 hc1 hA hl
     clear hga hgb
     clear hsm
     simp only [] at hta
     subst hta
     go_enter Tryz.func36, Tryz.ntmps36
     go_upto_region 1 with fail
     rw [show (((w.alloc (slO o i)).alloc (slO p j)).alloc (.cells #[.int .i64 ca, .int .i64 cb, .int .i64 cx, .int .u64 cd, .int .i64 ce, .int .i64 cf, .int .i64 cg, .int .i64 ch] 33)) = w1 from HW.out.symm]
     have RP1 := hid (fun v (hv : KeptQ w1.heap.size w1 v) => (HE.out v (HV1.out.trans (hv.1.mono HV1.out.size))).rc.1)
     have RA1 := hid (fun v (hv : KeptQ w1.heap.size w1 v) => ldS (((HV1.out.trans (hv.1.mono HV1.out.size)).block _ (ags HXA.out).1).trans HXA.out))
     have RB1 := hid (fun v (hv : KeptQ w1.heap.size w1 v) => ldS (((HV1.out.trans (hv.1.mono HV1.out.size)).block _ (ags HXB.out).1).trans HXB.out))
     have RF10 := hid (fun v (hv : KeptQ w1.heap.size w1 v) => HHa.out v (HV1.out.trans (hv.1.mono HV1.out.size)))
     have RF11 := hid (fun v (hv : KeptQ w1.heap.size w1 v) => HHb.out v (HV1.out.trans (hv.1.mono HV1.out.size)))
     refine wp_region_keptQ w1.heap.size w1 (by kernel_rfl) (by kernel_rfl) (KeptQ.refl (Nat.le_refl _)) ?_
     repeat (first
      | go_big_quiet_skip
      | (go_big_quiet_want; first
       | (refine quietQ_load_cell 68 _ rfl ⟨rhb, 0, none⟩ rfl _ RP1.out _ Tryz.underlying68 rfl ?_; simp only [Act.put, List.setIfInBounds_toArray, List.set_cons_zero, List.set_cons_succ]; go_big_quiet_on)
       | (refine quietV 30 _ rfl ⟨w.heap.size, 0, none⟩ rfl _ RA1.out ?_; simp only [Act.put, List.setIfInBounds_toArray, List.set_cons_zero, List.set_cons_succ]; go_big_quiet_on)
       | (refine quietV 30 _ rfl ⟨w.heap.size + 1, 0, none⟩ rfl _ RB1.out ?_; simp only [Act.put, List.setIfInBounds_toArray, List.set_cons_zero, List.set_cons_succ]; go_big_quiet_on)
       | (go_big_quiet_op; first
        | go_big_quiet_on
        | (refine ⟨_, fun _ _ => rfl, ?_⟩; go_big_quiet_on)
        | go_big_quiet_call ((intro hw; first
         | (go_at_call 79; (with_reducible refine (RF10.out _ hw).mono ?_); rintro e w7 ⟨rfl, hb7⟩; exact ⟨rfl, hw.call hb7⟩)
         | (go_at_call 79; (with_reducible refine (RF11.out _ hw).mono ?_); rintro e w7 ⟨rfl, hb7⟩; exact ⟨rfl, hw.call hb7⟩))))))
     refine wpQuiet_nil ?_
     intro w2 hq1
     have HV2 := hid (HV1.out.trans (hq1.1.mono HV1.out.size))
     clear hq1 RP1 RA1 RB1 RF10 RF11
     obtain ⟨x0, x1, x2, x3, x4, x5, x6, x7⟩ := cap_cells (((HV2.out).block _ (ags HXC.out).1).trans HXC.out)
     simp only [] at x0 x1 x2 x3 x4 x5 x6 x7
     go_upto_region 5 with (go_at_call 80; (with_reducible refine (HSM.out _ HV2.out).mono ?_); rintro e w3 ⟨rfl, hb3⟩; have HV3 := hid (HV2.out.trans (hb3.mono HV2.out.size)); clear hb3)
     clear x0 x1 x2 x3 x4 x5 x6 x7
     obtain ⟨k0, k1⟩ := slot_cells (((HV3.out).block _ (ags HXA.out).1).trans HXA.out)
     go_wp2_with (go_at_call 81; (with_reducible refine (HCa.out _ HV3.out).mono ?_); rintro e w4 ⟨rfl, hb4⟩; have HV4 := hid (HV3.out.trans (hb4.mono HV3.out.size)); clear hb4)
     go_ret
     exact ⟨rfl, HB1.out.trans (HV4.out.mono HB1.out.size)⟩
    ·rw [if_neg hta]
     have hua : (gt M p j).a ≠ 0 := fun e => hno ⟨by rw [pair_code, if_neg (fun e => e.elim (fun e => e hga) (fun e => e hgb)), if_neg hta, if_neg (fun z => z e)], hsm⟩
     rw [if_pos hua]
     have HHa : Hid (∀ v, Below w1.heap.size w1 v → Calls Tryz.prog 79 #[.pointer (some ⟨s.srb, 0, none⟩), slV o i] v fun e w' => e = .returned (.bool true) ∧ Below v.heap.size v w') := hid (fun v hv => by have := rhas (HE.out v hv) hA hl o i; rw [decide_eq_true hga] at this; exact this)
     have HHb : Hid (∀ v, Below w1.heap.size w1 v → Calls Tryz.prog 79 #[.pointer (some ⟨s.srb, 0, none⟩), slV p j] v fun e w' => e = .returned (.bool true) ∧ Below v.heap.size v w') := hid (fun v hv => by have := rhas (HE.out v hv) hA hl p j; rw [decide_eq_true hgb] at this; exact this)
     have HSM : Hid (∀ v, Below w1.heap.size w1 v → Calls Tryz.prog 80 #[Cp.V ⟨ca, cb, cx, cd, ce, cf, cg, ch⟩] v fun e w' => e = .returned (.bool true) ∧ Below v.heap.size v w') := hid (fun v hv => by have := rsome v ⟨ca, cb, cx, cd, ce, cf, cg, ch⟩; rw [hsm] at this; exact this)
     have HCa : Hid (∀ v, Below w1.heap.size w1 v → Calls Tryz.prog 81 #[.pointer (some ⟨rhb, 0, none⟩), slV o i] v fun e w' => e = .returned ((gt M o i).V) ∧ Below v.heap.size v w') := hid (fun v hv => rcap (HE.out v hv) hA hl o i)
     have HCb : Hid (∀ v, Below w1.heap.size w1 v → Calls Tryz.prog 81 #[.pointer (some ⟨rhb, 0, none⟩), slV p j] v fun e w' => e = .returned ((gt M p j).V) ∧ Below v.heap.size v w') := hid (fun v hv => rcap (HE.out v hv) hA hl p j)
     clear hno
     have HW := hid hw1
     generalize gt M o i = t at *
     obtain ⟨ta, tb, tx, td, te, tf, tg, th⟩ := t
     generalize gt M p j = u at *
     obtain ⟨ua, ub, ux, ud, ue, uf, ug, uh⟩ := u
     simp only [TabS.Cp.V] at HCa HCb
     have hfdt : ∀ w : World, (Instr.field 33 (.agg #[.int .i64 ta, .int .i64 tb, .int .i64 tx, .int .u64 td, .int .i64 te, .int .i64 tf, .int .i64 tg, .int .i64 th]) 0).run Tryz.prog w = .ok (.int .i64 ta) w := fun _ => by kernel_rfl
     have hfdu : ∀ w : World, (Instr.field 33 (.agg #[.int .i64 ua, .int .i64 ub, .int .i64 ux, .int .u64 ud, .int .i64 ue, .int .i64 uf, .int .i64 ug, .int .i64 uh]) 0).run Tryz.prog w = .ok (.int .i64 ua) w := fun _ => by kernel_rfl
     clear h hw1 hb1 hs1 ht1 hc1 hA hl
     clear hga hgb
     clear hsm
     simp only [] at hta hua
     have hta' : (ta == 0) = false := beq_eq_false_iff_ne.2 hta
     have hua' : (ua == 0) = false := beq_eq_false_iff_ne.2 hua
     go_enter Tryz.func36, Tryz.ntmps36
     go_upto_region 1 with fail
     rw [show (((w.alloc (slO o i)).alloc (slO p j)).alloc (.cells #[.int .i64 ca, .int .i64 cb, .int .i64 cx, .int .u64 cd, .int .i64 ce, .int .i64 cf, .int .i64 cg, .int .i64 ch] 33)) = w1 from HW.out.symm]
     have RP1 := hid (fun v (hv : KeptQ w1.heap.size w1 v) => (HE.out v (HV1.out.trans (hv.1.mono HV1.out.size))).rc.1)
     have RA1 := hid (fun v (hv : KeptQ w1.heap.size w1 v) => ldS (((HV1.out.trans (hv.1.mono HV1.out.size)).block _ (ags HXA.out).1).trans HXA.out))
     have RB1 := hid (fun v (hv : KeptQ w1.heap.size w1 v) => ldS (((HV1.out.trans (hv.1.mono HV1.out.size)).block _ (ags HXB.out).1).trans HXB.out))
     have RF10 := hid (fun v (hv : KeptQ w1.heap.size w1 v) => HHa.out v (HV1.out.trans (hv.1.mono HV1.out.size)))
     have RF11 := hid (fun v (hv : KeptQ w1.heap.size w1 v) => HHb.out v (HV1.out.trans (hv.1.mono HV1.out.size)))
     refine wp_region_keptQ w1.heap.size w1 (by kernel_rfl) (by kernel_rfl) (KeptQ.refl (Nat.le_refl _)) ?_
     repeat (first
      | go_big_quiet_skip
      | (go_big_quiet_want; first
       | (refine quietQ_load_cell 68 _ rfl ⟨rhb, 0, none⟩ rfl _ RP1.out _ Tryz.underlying68 rfl ?_; simp only [Act.put, List.setIfInBounds_toArray, List.set_cons_zero, List.set_cons_succ]; go_big_quiet_on)
       | (refine quietV 30 _ rfl ⟨w.heap.size, 0, none⟩ rfl _ RA1.out ?_; simp only [Act.put, List.setIfInBounds_toArray, List.set_cons_zero, List.set_cons_succ]; go_big_quiet_on)
       | (refine quietV 30 _ rfl ⟨w.heap.size + 1, 0, none⟩ rfl _ RB1.out ?_; simp only [Act.put, List.setIfInBounds_toArray, List.set_cons_zero, List.set_cons_succ]; go_big_quiet_on)
       | (go_big_quiet_op; first
        | go_big_quiet_on
        | (refine ⟨_, fun _ _ => rfl, ?_⟩; go_big_quiet_on)
        | go_big_quiet_call ((intro hw; first
         | (go_at_call 79; (with_reducible refine (RF10.out _ hw).mono ?_); rintro e w7 ⟨rfl, hb7⟩; exact ⟨rfl, hw.call hb7⟩)
         | (go_at_call 79; (with_reducible refine (RF11.out _ hw).mono ?_); rintro e w7 ⟨rfl, hb7⟩; exact ⟨rfl, hw.call hb7⟩))))))
     refine wpQuiet_nil ?_
     intro w2 hq1
     have HV2 := hid (HV1.out.trans (hq1.1.mono HV1.out.size))
     clear hq1 RP1 RA1 RB1 RF10 RF11
     obtain ⟨x0, x1, x2, x3, x4, x5, x6, x7⟩ := cap_cells (((HV2.out).block _ (ags HXC.out).1).trans HXC.out)
     simp only [] at x0 x1 x2 x3 x4 x5 x6 x7
     go_upto_region 5 with (go_at_call 80; (with_reducible refine (HSM.out _ HV2.out).mono ?_); rintro e w3 ⟨rfl, hb3⟩; have HV3 := hid (HV2.out.trans (hb3.mono HV2.out.size)); clear hb3)
     clear x0 x1 x2 x3 x4 x5 x6 x7
     obtain ⟨k0, k1⟩ := slot_cells (((HV3.out).block _ (ags HXA.out).1).trans HXA.out)
     go_upto_region 7 with (go_at_call 81; (with_reducible refine (HCa.out _ HV3.out).mono ?_); rintro e w4 ⟨rfl, hb4⟩; have HV4 := hid (HV3.out.trans (hb4.mono HV3.out.size)); clear hb4)
     clear k0 k1
     obtain ⟨r0, r1⟩ := slot_cells (((HV4.out).block _ (ags HXB.out).1).trans HXB.out)
     go_wp2_with (go_at_call 81; (with_reducible refine (HCb.out _ HV4.out).mono ?_); rintro e w5 ⟨rfl, hb5⟩; have HV5 := hid (HV4.out.trans (hb5.mono HV4.out.size)); clear hb5)
     go_ret
     exact ⟨rfl, HB1.out.trans (HV5.out.mono HB1.out.size)⟩
  ·rw [if_pos (.inr hgb)]
   have HHa : Hid (∀ v, Below w1.heap.size w1 v → Calls Tryz.prog 79 #[.pointer (some ⟨s.srb, 0, none⟩), slV o i] v fun e w' => e = .returned (.bool true) ∧ Below v.heap.size v w') := hid (fun v hv => by have := rhas (HE.out v hv) hA hl o i; rw [decide_eq_true hga] at this; exact this)
   have HHb : Hid (∀ v, Below w1.heap.size w1 v → Calls Tryz.prog 79 #[.pointer (some ⟨s.srb, 0, none⟩), slV p j] v fun e w' => e = .returned (.bool false) ∧ Below v.heap.size v w') := hid (fun v hv => by have := rhas (HE.out v hv) hA hl p j; rw [decide_eq_false hgb] at this; exact this)
   have HW := hid hw1
   clear h hw1 hb1 hs1 ht1 hc1 hA hl
   clear hga hgb hno
   go_enter Tryz.func36, Tryz.ntmps36
   go_upto_region 1 with fail
   rw [show (((w.alloc (slO o i)).alloc (slO p j)).alloc (.cells #[.int .i64 ca, .int .i64 cb, .int .i64 cx, .int .u64 cd, .int .i64 ce, .int .i64 cf, .int .i64 cg, .int .i64 ch] 33)) = w1 from HW.out.symm]
   have RP1 := hid (fun v (hv : KeptQ w1.heap.size w1 v) => (HE.out v (HV1.out.trans (hv.1.mono HV1.out.size))).rc.1)
   have RA1 := hid (fun v (hv : KeptQ w1.heap.size w1 v) => ldS (((HV1.out.trans (hv.1.mono HV1.out.size)).block _ (ags HXA.out).1).trans HXA.out))
   have RB1 := hid (fun v (hv : KeptQ w1.heap.size w1 v) => ldS (((HV1.out.trans (hv.1.mono HV1.out.size)).block _ (ags HXB.out).1).trans HXB.out))
   have RF10 := hid (fun v (hv : KeptQ w1.heap.size w1 v) => HHa.out v (HV1.out.trans (hv.1.mono HV1.out.size)))
   have RF11 := hid (fun v (hv : KeptQ w1.heap.size w1 v) => HHb.out v (HV1.out.trans (hv.1.mono HV1.out.size)))
   refine wp_region_keptQ w1.heap.size w1 (by kernel_rfl) (by kernel_rfl) (KeptQ.refl (Nat.le_refl _)) ?_
   repeat (first
    | go_big_quiet_skip
    | (go_big_quiet_want; first
     | (refine quietQ_load_cell 68 _ rfl ⟨rhb, 0, none⟩ rfl _ RP1.out _ Tryz.underlying68 rfl ?_; simp only [Act.put, List.setIfInBounds_toArray, List.set_cons_zero, List.set_cons_succ]; go_big_quiet_on)
     | (refine quietV 30 _ rfl ⟨w.heap.size, 0, none⟩ rfl _ RA1.out ?_; simp only [Act.put, List.setIfInBounds_toArray, List.set_cons_zero, List.set_cons_succ]; go_big_quiet_on)
     | (refine quietV 30 _ rfl ⟨w.heap.size + 1, 0, none⟩ rfl _ RB1.out ?_; simp only [Act.put, List.setIfInBounds_toArray, List.set_cons_zero, List.set_cons_succ]; go_big_quiet_on)
     | (go_big_quiet_op; first
      | go_big_quiet_on
      | (refine ⟨_, fun _ _ => rfl, ?_⟩; go_big_quiet_on)
      | go_big_quiet_call ((intro hw; first
       | (go_at_call 79; (with_reducible refine (RF10.out _ hw).mono ?_); rintro e w7 ⟨rfl, hb7⟩; exact ⟨rfl, hw.call hb7⟩)
       | (go_at_call 79; (with_reducible refine (RF11.out _ hw).mono ?_); rintro e w7 ⟨rfl, hb7⟩; exact ⟨rfl, hw.call hb7⟩))))))
   refine wpQuiet_nil ?_
   intro w2 hq1
   have HV2 := hid (HV1.out.trans (hq1.1.mono HV1.out.size))
   clear hq1 RP1 RA1 RB1 RF10 RF11
   go_wp2
   go_ret
   exact ⟨rfl, HB1.out.trans (HV2.out.mono HB1.out.size)⟩
 ·rw [if_pos (.inl hga)]
  have HHa : Hid (∀ v, Below w1.heap.size w1 v → Calls Tryz.prog 79 #[.pointer (some ⟨s.srb, 0, none⟩), slV o i] v fun e w' => e = .returned (.bool false) ∧ Below v.heap.size v w') := hid (fun v hv => by have := rhas (HE.out v hv) hA hl o i; rw [decide_eq_false hga] at this; exact this)
  have HW := hid hw1
  clear h hw1 hb1 hs1 ht1 hc1 hA hl
  clear hga hno
  go_enter Tryz.func36, Tryz.ntmps36
  go_upto_region 1 with fail
  rw [show (((w.alloc (slO o i)).alloc (slO p j)).alloc (.cells #[.int .i64 ca, .int .i64 cb, .int .i64 cx, .int .u64 cd, .int .i64 ce, .int .i64 cf, .int .i64 cg, .int .i64 ch] 33)) = w1 from HW.out.symm]
  have RP1 := hid (fun v (hv : KeptQ w1.heap.size w1 v) => (HE.out v (HV1.out.trans (hv.1.mono HV1.out.size))).rc.1)
  have RA1 := hid (fun v (hv : KeptQ w1.heap.size w1 v) => ldS (((HV1.out.trans (hv.1.mono HV1.out.size)).block _ (ags HXA.out).1).trans HXA.out))
  have RB1 := hid (fun v (hv : KeptQ w1.heap.size w1 v) => ldS (((HV1.out.trans (hv.1.mono HV1.out.size)).block _ (ags HXB.out).1).trans HXB.out))
  have RF10 := hid (fun v (hv : KeptQ w1.heap.size w1 v) => HHa.out v (HV1.out.trans (hv.1.mono HV1.out.size)))
  refine wp_region_keptQ w1.heap.size w1 (by kernel_rfl) (by kernel_rfl) (KeptQ.refl (Nat.le_refl _)) ?_
  repeat (first
   | go_big_quiet_skip
   | (go_big_quiet_want; first
    | (refine quietQ_load_cell 68 _ rfl ⟨rhb, 0, none⟩ rfl _ RP1.out _ Tryz.underlying68 rfl ?_; simp only [Act.put, List.setIfInBounds_toArray, List.set_cons_zero, List.set_cons_succ]; go_big_quiet_on)
    | (refine quietV 30 _ rfl ⟨w.heap.size, 0, none⟩ rfl _ RA1.out ?_; simp only [Act.put, List.setIfInBounds_toArray, List.set_cons_zero, List.set_cons_succ]; go_big_quiet_on)
    | (refine quietV 30 _ rfl ⟨w.heap.size + 1, 0, none⟩ rfl _ RB1.out ?_; simp only [Act.put, List.setIfInBounds_toArray, List.set_cons_zero, List.set_cons_succ]; go_big_quiet_on)
    | (go_big_quiet_op; first
     | go_big_quiet_on
     | (refine ⟨_, fun _ _ => rfl, ?_⟩; go_big_quiet_on)
     | go_big_quiet_call ((intro hw; first
      | (go_at_call 79; (with_reducible refine (RF10.out _ hw).mono ?_); rintro e w7 ⟨rfl, hb7⟩; exact ⟨rfl, hw.call hb7⟩))))))
  refine wpQuiet_nil ?_
  intro w2 hq1
  have HV2 := hid (HV1.out.trans (hq1.1.mono HV1.out.size))
  clear hq1 RP1 RA1 RB1 RF10
  go_wp2
  go_ret
  exact ⟨rfl, HB1.out.trans (HV2.out.mono HB1.out.size)⟩
theorem rchild_yes (h : Hd W s hb rhb n L M l l2 S w) (hA : Asc (rowsS M)) (hl : M.length < 1000000) (o i p j : Int) (c : Cp) (hlen : l2.length < 1000) (hdd : ∀ x ∈ l2, x.d < 1000) (hon : childOn M o i p j c) :
  Calls Tryz.prog 36 #[.pointer (some ⟨rhb, 0, none⟩), slV o i, slV p j, c.V] w fun e w' => e = .returned (.int .i64 0) ∧ Hd W s hb rhb n L (setM M p j c) l (childA l2 o i p j).1 S w' ∧ SameK S w w' := by
 obtain ⟨ca, cb, cx, cd, ce, cf, cg, ch⟩ := c
 obtain ⟨hb1, hs1, ht1, hc1⟩ := tri_boxes w o i p j ⟨ca, cb, cx, cd, ce, cf, cg, ch⟩
 obtain ⟨w1, hw1⟩ : ∃ y, y = triW w o i p j ⟨ca, cb, cx, cd, ce, cf, cg, ch⟩ := ⟨_, rfl⟩
 rw [← hw1] at hb1 hs1 ht1 hc1
 have HB1 := hid hb1
 have HV1 := hid (Below.refl w1.heap.size w1)
 have HH := hid h
 have HXA := hid hs1
 have HXB := hid ht1
 have HXC := hid hc1
 have HE : Hid (∀ v, Below w1.heap.size w1 v → Hd W s hb rhb n L M l l2 S v) := hid (fun v hv => (h.call hb1).call hv)
 obtain ⟨hpp, hsm⟩ := hon
 obtain ⟨hgb, hff, hua⟩ := pairN_zero hpp
 obtain ⟨hga, hta⟩ := fullN_zero hff
 obtain ⟨M2, hM2⟩ : ∃ y, y = setM M p j (⟨ca, cb, cx, cd, ce, cf, cg, ch⟩ : Cp) := ⟨_, rfl⟩
 obtain ⟨l3, hl3⟩ : ∃ y, y = (childA l2 o i p j).1 := ⟨_, rfl⟩
 rw [← hM2, ← hl3]
 obtain ⟨sn, hsn⟩ : ∃ y, y = setN M p j (⟨ca, cb, cx, cd, ce, cf, cg, ch⟩ : Cp) := ⟨_, rfl⟩
 obtain ⟨rn, hrn⟩ : ∃ y, y = (childA l2 o i p j).2 := ⟨_, rfl⟩
 have HHa : Hid (∀ v, Below w1.heap.size w1 v → Calls Tryz.prog 79 #[.pointer (some ⟨s.srb, 0, none⟩), slV o i] v fun e w' => e = .returned (.bool true) ∧ Below v.heap.size v w') := hid (fun v hv => by have := rhas (HE.out v hv) hA hl o i; rw [decide_eq_true hga] at this; exact this)
 have HHb : Hid (∀ v, Below w1.heap.size w1 v → Calls Tryz.prog 79 #[.pointer (some ⟨s.srb, 0, none⟩), slV p j] v fun e w' => e = .returned (.bool true) ∧ Below v.heap.size v w') := hid (fun v hv => by have := rhas (HE.out v hv) hA hl p j; rw [decide_eq_true hgb] at this; exact this)
 have HSM : Hid (∀ v, Below w1.heap.size w1 v → Calls Tryz.prog 80 #[Cp.V ⟨ca, cb, cx, cd, ce, cf, cg, ch⟩] v fun e w' => e = .returned (.bool true) ∧ Below v.heap.size v w') := hid (fun v hv => by have := rsome v ⟨ca, cb, cx, cd, ce, cf, cg, ch⟩; rw [hsm] at this; exact this)
 have HCa : Hid (∀ v, Below w1.heap.size w1 v → Calls Tryz.prog 81 #[.pointer (some ⟨rhb, 0, none⟩), slV o i] v fun e w' => e = .returned ((gt M o i).V) ∧ Below v.heap.size v w') := hid (fun v hv => rcap (HE.out v hv) hA hl o i)
 have HCb : Hid (∀ v, Below w1.heap.size w1 v → Calls Tryz.prog 81 #[.pointer (some ⟨rhb, 0, none⟩), slV p j] v fun e w' => e = .returned ((gt M p j).V) ∧ Below v.heap.size v w') := hid (fun v hv => rcap (HE.out v hv) hA hl p j)
 have HST : Hid (∀ v T, Hd W s hb rhb n L M l l2 T v → Calls Tryz.prog 82 #[.pointer (some ⟨s.srb, 0, none⟩), slV p j, Cp.V ⟨ca, cb, cx, cd, ce, cf, cg, ch⟩] v fun e w' => e = .returned (.int .i64 sn) ∧ Hd W s hb rhb n L M2 l l2 T w' ∧ SameK T v w') := hid (fun v T hv => by rw [hM2, hsn]; exact hv.act (fun K hK => hK.rset hA hl p j _))
 have HRT : Hid (∀ v T, Hd W s hb rhb n L M2 l l2 T v → Calls Tryz.prog 85 #[.pointer (some ⟨s.trb, 0, none⟩), slV o i, slV p j] v fun e w' => e = .returned (.int .i64 rn) ∧ Hd W s hb rhb n L M2 l l3 T w' ∧ SameK T v w') := hid (fun v T hv => by rw [hl3, hrn]; exact hv.act (fun K hK => hK.rchild o i p j hlen hdd))
 have HW := hid hw1
 generalize gt M o i = t at *
 obtain ⟨ta, tb, tx, td, te, tf, tg, th⟩ := t
 generalize gt M p j = u at *
 obtain ⟨ua, ub, ux, ud, ue, uf, ug, uh⟩ := u
 simp only [TabS.Cp.V] at HCa HCb
 have hfdt : ∀ w : World, (Instr.field 33 (.agg #[.int .i64 ta, .int .i64 tb, .int .i64 tx, .int .u64 td, .int .i64 te, .int .i64 tf, .int .i64 tg, .int .i64 th]) 0).run Tryz.prog w = .ok (.int .i64 ta) w := fun _ => by kernel_rfl
 have hfdu : ∀ w : World, (Instr.field 33 (.agg #[.int .i64 ua, .int .i64 ub, .int .i64 ux, .int .u64 ud, .int .i64 ue, .int .i64 uf, .int .i64 ug, .int .i64 uh]) 0).run Tryz.prog w = .ok (.int .i64 ua) w := fun _ => by kernel_rfl
 clear h hw1 hb1 hs1 ht1 hc1 hA hl
 clear hga hgb hsm hM2 hl3 hsn hrn hlen hdd hpp hff
 simp only [] at hta hua
 subst hua
 have hta' : (ta == 0) = false := beq_eq_false_iff_ne.2 hta
 go_enter Tryz.func36, Tryz.ntmps36
 go_upto_region 1 with fail
 rw [show (((w.alloc (slO o i)).alloc (slO p j)).alloc (.cells #[.int .i64 ca, .int .i64 cb, .int .i64 cx, .int .u64 cd, .int .i64 ce, .int .i64 cf, .int .i64 cg, .int .i64 ch] 33)) = w1 from HW.out.symm]
 have RP1 := hid (fun v (hv : KeptQ w1.heap.size w1 v) => (HE.out v (HV1.out.trans (hv.1.mono HV1.out.size))).rc.1)
 have RA1 := hid (fun v (hv : KeptQ w1.heap.size w1 v) => ldS (((HV1.out.trans (hv.1.mono HV1.out.size)).block _ (ags HXA.out).1).trans HXA.out))
 have RB1 := hid (fun v (hv : KeptQ w1.heap.size w1 v) => ldS (((HV1.out.trans (hv.1.mono HV1.out.size)).block _ (ags HXB.out).1).trans HXB.out))
 have RF10 := hid (fun v (hv : KeptQ w1.heap.size w1 v) => HHa.out v (HV1.out.trans (hv.1.mono HV1.out.size)))
 have RF11 := hid (fun v (hv : KeptQ w1.heap.size w1 v) => HHb.out v (HV1.out.trans (hv.1.mono HV1.out.size)))
 refine wp_region_keptQ w1.heap.size w1 (by kernel_rfl) (by kernel_rfl) (KeptQ.refl (Nat.le_refl _)) ?_
 repeat (first
  | go_big_quiet_skip
  | (go_big_quiet_want; first
   | (refine quietQ_load_cell 68 _ rfl ⟨rhb, 0, none⟩ rfl _ RP1.out _ Tryz.underlying68 rfl ?_; simp only [Act.put, List.setIfInBounds_toArray, List.set_cons_zero, List.set_cons_succ]; go_big_quiet_on)
   | (refine quietV 30 _ rfl ⟨w.heap.size, 0, none⟩ rfl _ RA1.out ?_; simp only [Act.put, List.setIfInBounds_toArray, List.set_cons_zero, List.set_cons_succ]; go_big_quiet_on)
   | (refine quietV 30 _ rfl ⟨w.heap.size + 1, 0, none⟩ rfl _ RB1.out ?_; simp only [Act.put, List.setIfInBounds_toArray, List.set_cons_zero, List.set_cons_succ]; go_big_quiet_on)
   | (go_big_quiet_op; first
    | go_big_quiet_on
    | (refine ⟨_, fun _ _ => rfl, ?_⟩; go_big_quiet_on)
    | go_big_quiet_call ((intro hw; first
     | (go_at_call 79; (with_reducible refine (RF10.out _ hw).mono ?_); rintro e w7 ⟨rfl, hb7⟩; exact ⟨rfl, hw.call hb7⟩)
     | (go_at_call 79; (with_reducible refine (RF11.out _ hw).mono ?_); rintro e w7 ⟨rfl, hb7⟩; exact ⟨rfl, hw.call hb7⟩))))))
 refine wpQuiet_nil ?_
 intro w2 hq1
 have HV2 := hid (HV1.out.trans (hq1.1.mono HV1.out.size))
 clear hq1 RP1 RA1 RB1 RF10 RF11
 obtain ⟨x0, x1, x2, x3, x4, x5, x6, x7⟩ := cap_cells (((HV2.out).block _ (ags HXC.out).1).trans HXC.out)
 simp only [] at x0 x1 x2 x3 x4 x5 x6 x7
 go_upto_region 5 with (go_at_call 80; (with_reducible refine (HSM.out _ HV2.out).mono ?_); rintro e w3 ⟨rfl, hb3⟩; have HV3 := hid (HV2.out.trans (hb3.mono HV2.out.size)); clear hb3)
 clear x0 x1 x2 x3 x4 x5 x6 x7
 obtain ⟨k0, k1⟩ := slot_cells (((HV3.out).block _ (ags HXA.out).1).trans HXA.out)
 go_upto_region 7 with (go_at_call 81; (with_reducible refine (HCa.out _ HV3.out).mono ?_); rintro e w4 ⟨rfl, hb4⟩; have HV4 := hid (HV3.out.trans (hb4.mono HV3.out.size)); clear hb4)
 clear k0 k1
 obtain ⟨r0, r1⟩ := slot_cells (((HV4.out).block _ (ags HXB.out).1).trans HXB.out)
 go_upto_region 9 with (go_at_call 81; (with_reducible refine (HCb.out _ HV4.out).mono ?_); rintro e w5 ⟨rfl, hb5⟩; have HV5 := hid (HV4.out.trans (hb5.mono HV4.out.size)); clear hb5)
 clear r0 r1
 have BFA0 := hid (((HV5.out).block _ (ags HXA.out).1).trans HXA.out)
 have BFB0 := hid (((HV5.out).block _ (ags HXB.out).1).trans HXB.out)
 have BFC0 := hid (((HV5.out).block _ (ags HXC.out).1).trans HXC.out)
 have HBW := hid (HB1.out.trans (HV5.out.mono HB1.out.size))
 have HT0 := hid (HH.out.fresh HBW.out)
 have HNA : Hid (New w w5 (w.heap.size)) := hid ⟨by omega, (ags BFA0.out).1⟩
 have HNB : Hid (New w w5 (w.heap.size + 1)) := hid ⟨by omega, (ags BFB0.out).1⟩
 have HNC : Hid (New w w5 (w.heap.size + 2)) := hid ⟨by omega, (ags BFC0.out).1⟩
 have HA1 : Hid (w5.cell? ⟨rhb, 0, none⟩ = some (.pointer (some ⟨s.srb, 0, none⟩)) ∧ w5.cell? ⟨w.heap.size + 1, 0, none⟩ = some (.int .i64 p) ∧ w5.cell? ⟨w.heap.size + 1, 1, none⟩ = some (.int .i64 j) ∧ w5.cell? ⟨w.heap.size + 2, 0, none⟩ = some (.int .i64 ca) ∧ w5.cell? ⟨w.heap.size + 2, 1, none⟩ = some (.int .i64 cb) ∧ w5.cell? ⟨w.heap.size + 2, 2, none⟩ = some (.int .i64 cx) ∧ w5.cell? ⟨w.heap.size + 2, 3, none⟩ = some (.int .u64 cd) ∧ w5.cell? ⟨w.heap.size + 2, 4, none⟩ = some (.int .i64 ce) ∧ w5.cell? ⟨w.heap.size + 2, 5, none⟩ = some (.int .i64 cf) ∧ w5.cell? ⟨w.heap.size + 2, 6, none⟩ = some (.int .i64 cg) ∧ w5.cell? ⟨w.heap.size + 2, 7, none⟩ = some (.int .i64 ch)) := hid ⟨HT0.out.rc.1, (slot_cells BFB0.out).1, (slot_cells BFB0.out).2, (cap_cells BFC0.out).1, (cap_cells BFC0.out).2.1, (cap_cells BFC0.out).2.2.1, (cap_cells BFC0.out).2.2.2.1, (cap_cells BFC0.out).2.2.2.2.1, (cap_cells BFC0.out).2.2.2.2.2.1, (cap_cells BFC0.out).2.2.2.2.2.2.1, (cap_cells BFC0.out).2.2.2.2.2.2.2⟩
 have HD1 : Hid (w5.drew.cell? ⟨rhb, 0, none⟩ = some (.pointer (some ⟨s.srb, 0, none⟩)) ∧ w5.drew.cell? ⟨w.heap.size + 1, 0, none⟩ = some (.int .i64 p) ∧ w5.drew.cell? ⟨w.heap.size + 1, 1, none⟩ = some (.int .i64 j) ∧ w5.drew.cell? ⟨w.heap.size + 2, 0, none⟩ = some (.int .i64 ca) ∧ w5.drew.cell? ⟨w.heap.size + 2, 1, none⟩ = some (.int .i64 cb) ∧ w5.drew.cell? ⟨w.heap.size + 2, 2, none⟩ = some (.int .i64 cx) ∧ w5.drew.cell? ⟨w.heap.size + 2, 3, none⟩ = some (.int .u64 cd) ∧ w5.drew.cell? ⟨w.heap.size + 2, 4, none⟩ = some (.int .i64 ce) ∧ w5.drew.cell? ⟨w.heap.size + 2, 5, none⟩ = some (.int .i64 cf) ∧ w5.drew.cell? ⟨w.heap.size + 2, 6, none⟩ = some (.int .i64 cg) ∧ w5.drew.cell? ⟨w.heap.size + 2, 7, none⟩ = some (.int .i64 ch)) := hid HA1.out
 have HE1d := hid (HT0.out.call (show Below w5.heap.size w5 w5.drew from (Below.refl _ _).drew))
 have HC1 := hid (HST.out _ _ HE1d.out)
 go_region_held3 (fun w' => w'.cell? ⟨rhb, 0, none⟩ = some (.pointer (some ⟨s.srb, 0, none⟩)) ∧ w'.cell? ⟨w.heap.size + 1, 0, none⟩ = some (.int .i64 p) ∧ w'.cell? ⟨w.heap.size + 1, 1, none⟩ = some (.int .i64 j) ∧ w'.cell? ⟨w.heap.size + 2, 0, none⟩ = some (.int .i64 ca) ∧ w'.cell? ⟨w.heap.size + 2, 1, none⟩ = some (.int .i64 cb) ∧ w'.cell? ⟨w.heap.size + 2, 2, none⟩ = some (.int .i64 cx) ∧ w'.cell? ⟨w.heap.size + 2, 3, none⟩ = some (.int .u64 cd) ∧ w'.cell? ⟨w.heap.size + 2, 4, none⟩ = some (.int .i64 ce) ∧ w'.cell? ⟨w.heap.size + 2, 5, none⟩ = some (.int .i64 cf) ∧ w'.cell? ⟨w.heap.size + 2, 6, none⟩ = some (.int .i64 cg) ∧ w'.cell? ⟨w.heap.size + 2, 7, none⟩ = some (.int .i64 ch))
  (first | (with_reducible exact HA1.out) | (with_reducible exact HD1.out) | (with_reducible exact HF1.out))
  (first | (go_at_call 82; (with_reducible refine HC1.out.mono ?_); rintro e a1 ⟨rfl, hh, hk⟩; have HH1 := hid hh; have bfA := (hk _ (.inr HNA.out)).trans BFA0.out; have BFA1 := hid bfA; have bfB := (hk _ (.inr HNB.out)).trans BFB0.out; have BFB1 := hid bfB; have bfC := (hk _ (.inr HNC.out)).trans BFC0.out; have BFC1 := hid bfC; have HK1 := hid hk; have HF1 : Hid (a1.cell? ⟨rhb, 0, none⟩ = some (.pointer (some ⟨s.srb, 0, none⟩)) ∧ a1.cell? ⟨w.heap.size + 1, 0, none⟩ = some (.int .i64 p) ∧ a1.cell? ⟨w.heap.size + 1, 1, none⟩ = some (.int .i64 j) ∧ a1.cell? ⟨w.heap.size + 2, 0, none⟩ = some (.int .i64 ca) ∧ a1.cell? ⟨w.heap.size + 2, 1, none⟩ = some (.int .i64 cb) ∧ a1.cell? ⟨w.heap.size + 2, 2, none⟩ = some (.int .i64 cx) ∧ a1.cell? ⟨w.heap.size + 2, 3, none⟩ = some (.int .u64 cd) ∧ a1.cell? ⟨w.heap.size + 2, 4, none⟩ = some (.int .i64 ce) ∧ a1.cell? ⟨w.heap.size + 2, 5, none⟩ = some (.int .i64 cf) ∧ a1.cell? ⟨w.heap.size + 2, 6, none⟩ = some (.int .i64 cg) ∧ a1.cell? ⟨w.heap.size + 2, 7, none⟩ = some (.int .i64 ch)) := hid ⟨hh.rc.1, (slot_cells bfB).1, (slot_cells bfB).2, (cap_cells bfC).1, (cap_cells bfC).2.1, (cap_cells bfC).2.2.1, (cap_cells bfC).2.2.2.1, (cap_cells bfC).2.2.2.2.1, (cap_cells bfC).2.2.2.2.2.1, (cap_cells bfC).2.2.2.2.2.2.1, (cap_cells bfC).2.2.2.2.2.2.2⟩; clear hh hk bfA bfB bfC))
 have HA2 : Hid (a1.cell? ⟨rhb, 1, none⟩ = some (.pointer (some ⟨s.trb, 0, none⟩)) ∧ a1.cell? ⟨w.heap.size, 0, none⟩ = some (.int .i64 o) ∧ a1.cell? ⟨w.heap.size, 1, none⟩ = some (.int .i64 i) ∧ a1.cell? ⟨w.heap.size + 1, 0, none⟩ = some (.int .i64 p) ∧ a1.cell? ⟨w.heap.size + 1, 1, none⟩ = some (.int .i64 j)) := hid ⟨HH1.out.rc.2.1, (slot_cells BFA1.out).1, (slot_cells BFA1.out).2, (slot_cells BFB1.out).1, (slot_cells BFB1.out).2⟩
 have HD2 : Hid (a1.drew.cell? ⟨rhb, 1, none⟩ = some (.pointer (some ⟨s.trb, 0, none⟩)) ∧ a1.drew.cell? ⟨w.heap.size, 0, none⟩ = some (.int .i64 o) ∧ a1.drew.cell? ⟨w.heap.size, 1, none⟩ = some (.int .i64 i) ∧ a1.drew.cell? ⟨w.heap.size + 1, 0, none⟩ = some (.int .i64 p) ∧ a1.drew.cell? ⟨w.heap.size + 1, 1, none⟩ = some (.int .i64 j)) := hid HA2.out
 have HE2d := hid (HH1.out.call (show Below a1.heap.size a1 a1.drew from (Below.refl _ _).drew))
 have HC2 := hid (HRT.out _ _ HE2d.out)
 go_upto_region 10 with fail
 go_region_held3 (fun w' => w'.cell? ⟨rhb, 1, none⟩ = some (.pointer (some ⟨s.trb, 0, none⟩)) ∧ w'.cell? ⟨w.heap.size, 0, none⟩ = some (.int .i64 o) ∧ w'.cell? ⟨w.heap.size, 1, none⟩ = some (.int .i64 i) ∧ w'.cell? ⟨w.heap.size + 1, 0, none⟩ = some (.int .i64 p) ∧ w'.cell? ⟨w.heap.size + 1, 1, none⟩ = some (.int .i64 j))
  (first | (with_reducible exact HA2.out) | (with_reducible exact HD2.out) | (with_reducible exact HF2.out))
  (first | (go_at_call 85; (with_reducible refine HC2.out.mono ?_); rintro e a2 ⟨rfl, hh, hk⟩; have HH2 := hid hh; have bfA := (hk _ (.inr HNA.out)).trans BFA1.out; have BFA2 := hid bfA; have bfB := (hk _ (.inr HNB.out)).trans BFB1.out; have BFB2 := hid bfB; have bfC := (hk _ (.inr HNC.out)).trans BFC1.out; have BFC2 := hid bfC; have HK2 := hid hk; have HF2 : Hid (a2.cell? ⟨rhb, 1, none⟩ = some (.pointer (some ⟨s.trb, 0, none⟩)) ∧ a2.cell? ⟨w.heap.size, 0, none⟩ = some (.int .i64 o) ∧ a2.cell? ⟨w.heap.size, 1, none⟩ = some (.int .i64 i) ∧ a2.cell? ⟨w.heap.size + 1, 0, none⟩ = some (.int .i64 p) ∧ a2.cell? ⟨w.heap.size + 1, 1, none⟩ = some (.int .i64 j)) := hid ⟨hh.rc.2.1, (slot_cells bfA).1, (slot_cells bfA).2, (slot_cells bfB).1, (slot_cells bfB).2⟩; clear hh hk bfA bfB bfC))
 all_goals
  go_wp2
  go_ret
  exact ⟨rfl, HH2.out.weak (fun k q => .inl q), fun k q => (HK2.out k (.inl q)).trans ((HK1.out k (.inl q)).trans (HBW.out.block k (HH.out.lt q)))⟩
theorem rchild (h : Hd W s hb rhb n L M l l2 S w) (hA : Asc (rowsS M)) (hl : M.length < 1000000) (o i p j : Int) (c : Cp) (hlen : l2.length < 1000) (hdd : ∀ x ∈ l2, x.d < 1000) :
  Calls Tryz.prog 36 #[.pointer (some ⟨rhb, 0, none⟩), slV o i, slV p j, c.V] w fun e w' => e = .returned (.int .i64 (rchN M o i p j c)) ∧ Hd W s hb rhb n L (chL M o i p j c) l (chT M l2 o i p j c) S w' ∧ SameK S w w' := by
 unfold chL chT
 cases hc : chB M o i p j c with
 | true =>
  have hon := chB_on.1 hc
  refine (rchild_yes h hA hl o i p j c hlen hdd hon).mono ?_
  rintro e w' ⟨he, h1, h2⟩
  refine ⟨?_, h1, h2⟩
  rw [he]
  have hp := hon.1
  rw [pair_code] at hp
  unfold rchN
  split at hp
  ·cases hp
  ·rename_i q
   rw [if_neg q, hon.2, if_neg (by decide), hp]
 | false =>
  refine (rchild_no h hA hl o i p j c (fun z => by rw [chB_on.2 z] at hc; cases hc)).mono ?_
  rintro e w' ⟨he, hB⟩
  exact ⟨he, h.call hB, h.same hB⟩
theorem rset_no (h : Hd W s hb rhb n L M l l2 S w) (hA : Asc (rowsS M)) (hl : M.length < 1000000) (o i : Int) (c : Cp) (hno : ¬ hsetOn M o i c) :
  Calls Tryz.prog 38 #[.pointer (some ⟨rhb, 0, none⟩), slV o i, c.V] w fun e w' => e = .returned (.int .i64 (rstN M o i c)) ∧ Below w.heap.size w w' := by
 unfold rstN
 obtain ⟨ca, cb, cx, cd, ce, cf, cg, ch⟩ := c
 obtain ⟨hb1, hs1, hc1⟩ := slot_cap_boxes w o i ⟨ca, cb, cx, cd, ce, cf, cg, ch⟩
 obtain ⟨w1, hw1⟩ : ∃ y, y = (w.alloc (slO o i)).alloc (.cells (⟨ca, cb, cx, cd, ce, cf, cg, ch⟩ : Cp).L.toArray 33) := ⟨_, rfl⟩
 rw [← hw1] at hb1 hs1 hc1
 have HB1 := hid hb1
 have HV1 := hid (Below.refl w1.heap.size w1)
 have HH := hid h
 have HXA := hid hs1
 have HXC := hid hc1
 have HE : Hid (∀ v, Below w1.heap.size w1 v → Hd W s hb rhb n L M l l2 S v) := hid (fun v hv => (h.call hb1).call hv)
 by_cases hga : gn M o i = 0
 ·rw [if_neg (fun e => e hga)]
  by_cases hta : (gt M o i).a = 0
  ·rw [if_pos hta]
   have HHa : Hid (∀ v, Below w1.heap.size w1 v → Calls Tryz.prog 79 #[.pointer (some ⟨s.srb, 0, none⟩), slV o i] v fun e w' => e = .returned (.bool true) ∧ Below v.heap.size v w') := hid (fun v hv => by have := rhas (HE.out v hv) hA hl o i; rw [decide_eq_true hga] at this; exact this)
   have HCa : Hid (∀ v, Below w1.heap.size w1 v → Calls Tryz.prog 81 #[.pointer (some ⟨rhb, 0, none⟩), slV o i] v fun e w' => e = .returned ((gt M o i).V) ∧ Below v.heap.size v w') := hid (fun v hv => rcap (HE.out v hv) hA hl o i)
   clear hno
   have HW := hid hw1
   generalize gt M o i = t at *
   obtain ⟨ta, tb, tx, td, te, tf, tg, th⟩ := t
   simp only [TabS.Cp.V] at HCa
   have hfdt : ∀ w : World, (Instr.field 33 (.agg #[.int .i64 ta, .int .i64 tb, .int .i64 tx, .int .u64 td, .int .i64 te, .int .i64 tf, .int .i64 tg, .int .i64 th]) 0).run Tryz.prog w = .ok (.int .i64 ta) w := fun _ => by kernel_rfl
   clear h hw1 hb1 hs1 hc1 hA hl
   clear hga
   simp only [] at hta
   subst hta
   go_enter Tryz.func38, Tryz.ntmps38
   go_upto_region 1 with fail
   rw [show ((w.alloc (slO o i)).alloc (.cells #[.int .i64 ca, .int .i64 cb, .int .i64 cx, .int .u64 cd, .int .i64 ce, .int .i64 cf, .int .i64 cg, .int .i64 ch] 33)) = w1 from HW.out.symm]
   have RP1 := hid (fun v (hv : KeptQ w1.heap.size w1 v) => (HE.out v (HV1.out.trans (hv.1.mono HV1.out.size))).rc.1)
   have RA1 := hid (fun v (hv : KeptQ w1.heap.size w1 v) => ldS (((HV1.out.trans (hv.1.mono HV1.out.size)).block _ (ags HXA.out).1).trans HXA.out))
   have RF10 := hid (fun v (hv : KeptQ w1.heap.size w1 v) => HHa.out v (HV1.out.trans (hv.1.mono HV1.out.size)))
   refine wp_region_keptQ w1.heap.size w1 (by kernel_rfl) (by kernel_rfl) (KeptQ.refl (Nat.le_refl _)) ?_
   repeat (first
    | go_big_quiet_skip
    | (go_big_quiet_want; first
     | (refine quietQ_load_cell 68 _ rfl ⟨rhb, 0, none⟩ rfl _ RP1.out _ Tryz.underlying68 rfl ?_; simp only [Act.put, List.setIfInBounds_toArray, List.set_cons_zero, List.set_cons_succ]; go_big_quiet_on)
     | (refine quietV 30 _ rfl ⟨w.heap.size, 0, none⟩ rfl _ RA1.out ?_; simp only [Act.put, List.setIfInBounds_toArray, List.set_cons_zero, List.set_cons_succ]; go_big_quiet_on)
     | (go_big_quiet_op; first
      | go_big_quiet_on
      | (refine ⟨_, fun _ _ => rfl, ?_⟩; go_big_quiet_on)
      | go_big_quiet_call ((intro hw; first
       | (go_at_call 79; (with_reducible refine (RF10.out _ hw).mono ?_); rintro e w7 ⟨rfl, hb7⟩; exact ⟨rfl, hw.call hb7⟩))))))
   refine wpQuiet_nil ?_
   intro w2 hq1
   have HV2 := hid (HV1.out.trans (hq1.1.mono HV1.out.size))
   clear hq1 RP1 RA1 RF10
   obtain ⟨k0, k1⟩ := slot_cells (((HV2.out).block _ (ags HXA.out).1).trans HXA.out)
   go_wp2_with (go_at_call 81; (with_reducible refine (HCa.out _ HV2.out).mono ?_); rintro e w3 ⟨rfl, hb3⟩; have HV3 := hid (HV2.out.trans (hb3.mono HV2.out.size)); clear hb3)
   go_ret
   exact ⟨rfl, HB1.out.trans (HV3.out.mono HB1.out.size)⟩
  ·rw [if_neg hta]
   have hsa : sameC (⟨ca, cb, cx, cd, ce, cf, cg, ch⟩ : Cp) (gt M o i) = false := by
    cases q : sameC (⟨ca, cb, cx, cd, ce, cf, cg, ch⟩ : Cp) (gt M o i) with
    | false => rfl
    | true => exact absurd ⟨by unfold fullN; rw [if_neg (fun e => hta e.2)]; exact hga, q⟩ hno
   rw [if_pos hsa]
   have HHa : Hid (∀ v, Below w1.heap.size w1 v → Calls Tryz.prog 79 #[.pointer (some ⟨s.srb, 0, none⟩), slV o i] v fun e w' => e = .returned (.bool true) ∧ Below v.heap.size v w') := hid (fun v hv => by have := rhas (HE.out v hv) hA hl o i; rw [decide_eq_true hga] at this; exact this)
   have HCa : Hid (∀ v, Below w1.heap.size w1 v → Calls Tryz.prog 81 #[.pointer (some ⟨rhb, 0, none⟩), slV o i] v fun e w' => e = .returned ((gt M o i).V) ∧ Below v.heap.size v w') := hid (fun v hv => rcap (HE.out v hv) hA hl o i)
   have HAL : Hid (∀ v, Below w1.heap.size w1 v → Calls Tryz.prog 86 #[Cp.V ⟨ca, cb, cx, cd, ce, cf, cg, ch⟩, (gt M o i).V] v fun e w' => e = .returned (.bool false) ∧ Below v.heap.size v w') := hid (fun v hv => by have := ralike v ⟨ca, cb, cx, cd, ce, cf, cg, ch⟩ (gt M o i); rw [hsa] at this; exact this)
   clear hno
   have HW := hid hw1
   generalize gt M o i = t at *
   obtain ⟨ta, tb, tx, td, te, tf, tg, th⟩ := t
   simp only [TabS.Cp.V] at HCa
   have hfdt : ∀ w : World, (Instr.field 33 (.agg #[.int .i64 ta, .int .i64 tb, .int .i64 tx, .int .u64 td, .int .i64 te, .int .i64 tf, .int .i64 tg, .int .i64 th]) 0).run Tryz.prog w = .ok (.int .i64 ta) w := fun _ => by kernel_rfl
   clear h hw1 hb1 hs1 hc1 hA hl
   clear hga
   clear hsa
   simp only [] at hta
   have hta' : (ta == 0) = false := beq_eq_false_iff_ne.2 hta
   go_enter Tryz.func38, Tryz.ntmps38
   go_upto_region 1 with fail
   rw [show ((w.alloc (slO o i)).alloc (.cells #[.int .i64 ca, .int .i64 cb, .int .i64 cx, .int .u64 cd, .int .i64 ce, .int .i64 cf, .int .i64 cg, .int .i64 ch] 33)) = w1 from HW.out.symm]
   have RP1 := hid (fun v (hv : KeptQ w1.heap.size w1 v) => (HE.out v (HV1.out.trans (hv.1.mono HV1.out.size))).rc.1)
   have RA1 := hid (fun v (hv : KeptQ w1.heap.size w1 v) => ldS (((HV1.out.trans (hv.1.mono HV1.out.size)).block _ (ags HXA.out).1).trans HXA.out))
   have RF10 := hid (fun v (hv : KeptQ w1.heap.size w1 v) => HHa.out v (HV1.out.trans (hv.1.mono HV1.out.size)))
   refine wp_region_keptQ w1.heap.size w1 (by kernel_rfl) (by kernel_rfl) (KeptQ.refl (Nat.le_refl _)) ?_
   repeat (first
    | go_big_quiet_skip
    | (go_big_quiet_want; first
     | (refine quietQ_load_cell 68 _ rfl ⟨rhb, 0, none⟩ rfl _ RP1.out _ Tryz.underlying68 rfl ?_; simp only [Act.put, List.setIfInBounds_toArray, List.set_cons_zero, List.set_cons_succ]; go_big_quiet_on)
     | (refine quietV 30 _ rfl ⟨w.heap.size, 0, none⟩ rfl _ RA1.out ?_; simp only [Act.put, List.setIfInBounds_toArray, List.set_cons_zero, List.set_cons_succ]; go_big_quiet_on)
     | (go_big_quiet_op; first
      | go_big_quiet_on
      | (refine ⟨_, fun _ _ => rfl, ?_⟩; go_big_quiet_on)
      | go_big_quiet_call ((intro hw; first
       | (go_at_call 79; (with_reducible refine (RF10.out _ hw).mono ?_); rintro e w7 ⟨rfl, hb7⟩; exact ⟨rfl, hw.call hb7⟩))))))
   refine wpQuiet_nil ?_
   intro w2 hq1
   have HV2 := hid (HV1.out.trans (hq1.1.mono HV1.out.size))
   clear hq1 RP1 RA1 RF10
   obtain ⟨k0, k1⟩ := slot_cells (((HV2.out).block _ (ags HXA.out).1).trans HXA.out)
   go_upto_region 5 with (go_at_call 81; (with_reducible refine (HCa.out _ HV2.out).mono ?_); rintro e w3 ⟨rfl, hb3⟩; have HV3 := hid (HV2.out.trans (hb3.mono HV2.out.size)); clear hb3)
   have RA3 := hid (fun v (hv : KeptQ w3.heap.size w3 v) => ldS (((HV3.out.trans (hv.1.mono HV3.out.size)).block _ (ags HXA.out).1).trans HXA.out))
   have RC3 := hid (fun v (hv : KeptQ w3.heap.size w3 v) => ldC (((HV3.out.trans (hv.1.mono HV3.out.size)).block _ (ags HXC.out).1).trans HXC.out))
   have RF30 := hid (fun v (hv : KeptQ w3.heap.size w3 v) => HCa.out v (HV3.out.trans (hv.1.mono HV3.out.size)))
   have RF31 := hid (fun v (hv : KeptQ w3.heap.size w3 v) => HAL.out v (HV3.out.trans (hv.1.mono HV3.out.size)))
   refine wp_region_keptQ w3.heap.size w3 (by kernel_rfl) (by kernel_rfl) (KeptQ.refl (Nat.le_refl _)) ?_
   repeat (first
    | go_big_quiet_skip
    | (go_big_quiet_want; first
     | (refine quietV 30 _ rfl ⟨w.heap.size, 0, none⟩ rfl _ RA3.out ?_; simp only [Act.put, List.setIfInBounds_toArray, List.set_cons_zero, List.set_cons_succ]; go_big_quiet_on)
     | (refine quietV 33 _ rfl ⟨w.heap.size + 1, 0, none⟩ rfl _ RC3.out ?_; simp only [Act.put, List.setIfInBounds_toArray, List.set_cons_zero, List.set_cons_succ]; go_big_quiet_on)
     | (go_big_quiet_op; first
      | go_big_quiet_on
      | (refine ⟨_, fun _ _ => rfl, ?_⟩; go_big_quiet_on)
      | go_big_quiet_call ((intro hw; first
       | (go_at_call 81; (with_reducible refine (RF30.out _ hw).mono ?_); rintro e w7 ⟨rfl, hb7⟩; exact ⟨rfl, hw.call hb7⟩)
       | (go_at_call 86; (with_reducible refine (RF31.out _ hw).mono ?_); rintro e w7 ⟨rfl, hb7⟩; exact ⟨rfl, hw.call hb7⟩))))))
   refine wpQuiet_nil ?_
   intro w4 hq3
   have HV4 := hid (HV3.out.trans (hq3.1.mono HV3.out.size))
   clear hq3 RA3 RC3 RF30 RF31
   clear k0 k1
   go_wp2
   go_ret
   exact ⟨rfl, HB1.out.trans (HV4.out.mono HB1.out.size)⟩
 ·rw [if_pos hga]
  have HHa : Hid (∀ v, Below w1.heap.size w1 v → Calls Tryz.prog 79 #[.pointer (some ⟨s.srb, 0, none⟩), slV o i] v fun e w' => e = .returned (.bool false) ∧ Below v.heap.size v w') := hid (fun v hv => by have := rhas (HE.out v hv) hA hl o i; rw [decide_eq_false hga] at this; exact this)
  have HW := hid hw1
  clear h hw1 hb1 hs1 hc1 hA hl
  clear hga hno
  go_enter Tryz.func38, Tryz.ntmps38
  go_upto_region 1 with fail
  rw [show ((w.alloc (slO o i)).alloc (.cells #[.int .i64 ca, .int .i64 cb, .int .i64 cx, .int .u64 cd, .int .i64 ce, .int .i64 cf, .int .i64 cg, .int .i64 ch] 33)) = w1 from HW.out.symm]
  have RP1 := hid (fun v (hv : KeptQ w1.heap.size w1 v) => (HE.out v (HV1.out.trans (hv.1.mono HV1.out.size))).rc.1)
  have RA1 := hid (fun v (hv : KeptQ w1.heap.size w1 v) => ldS (((HV1.out.trans (hv.1.mono HV1.out.size)).block _ (ags HXA.out).1).trans HXA.out))
  have RF10 := hid (fun v (hv : KeptQ w1.heap.size w1 v) => HHa.out v (HV1.out.trans (hv.1.mono HV1.out.size)))
  refine wp_region_keptQ w1.heap.size w1 (by kernel_rfl) (by kernel_rfl) (KeptQ.refl (Nat.le_refl _)) ?_
  repeat (first
   | go_big_quiet_skip
   | (go_big_quiet_want; first
    | (refine quietQ_load_cell 68 _ rfl ⟨rhb, 0, none⟩ rfl _ RP1.out _ Tryz.underlying68 rfl ?_; simp only [Act.put, List.setIfInBounds_toArray, List.set_cons_zero, List.set_cons_succ]; go_big_quiet_on)
    | (refine quietV 30 _ rfl ⟨w.heap.size, 0, none⟩ rfl _ RA1.out ?_; simp only [Act.put, List.setIfInBounds_toArray, List.set_cons_zero, List.set_cons_succ]; go_big_quiet_on)
    | (go_big_quiet_op; first
     | go_big_quiet_on
     | (refine ⟨_, fun _ _ => rfl, ?_⟩; go_big_quiet_on)
     | go_big_quiet_call ((intro hw; first
      | (go_at_call 79; (with_reducible refine (RF10.out _ hw).mono ?_); rintro e w7 ⟨rfl, hb7⟩; exact ⟨rfl, hw.call hb7⟩))))))
  refine wpQuiet_nil ?_
  intro w2 hq1
  have HV2 := hid (HV1.out.trans (hq1.1.mono HV1.out.size))
  clear hq1 RP1 RA1 RF10
  go_wp2
  go_ret
  exact ⟨rfl, HB1.out.trans (HV2.out.mono HB1.out.size)⟩
theorem rset_yes (h : Hd W s hb rhb n L M l l2 S w) (hA : Asc (rowsS M)) (hl : M.length < 1000000) (o i : Int) (c : Cp) (hon : hsetOn M o i c) :
  Calls Tryz.prog 38 #[.pointer (some ⟨rhb, 0, none⟩), slV o i, c.V] w fun e w' => e = .returned (.int .i64 (setN M o i c)) ∧ Hd W s hb rhb n L (setM M o i c) l l2 S w' ∧ SameK S w w' := by
 obtain ⟨ca, cb, cx, cd, ce, cf, cg, ch⟩ := c
 obtain ⟨hb1, hs1, hc1⟩ := slot_cap_boxes w o i ⟨ca, cb, cx, cd, ce, cf, cg, ch⟩
 obtain ⟨w1, hw1⟩ : ∃ y, y = (w.alloc (slO o i)).alloc (.cells (⟨ca, cb, cx, cd, ce, cf, cg, ch⟩ : Cp).L.toArray 33) := ⟨_, rfl⟩
 rw [← hw1] at hb1 hs1 hc1
 have HB1 := hid hb1
 have HV1 := hid (Below.refl w1.heap.size w1)
 have HH := hid h
 have HXA := hid hs1
 have HXC := hid hc1
 have HE : Hid (∀ v, Below w1.heap.size w1 v → Hd W s hb rhb n L M l l2 S v) := hid (fun v hv => (h.call hb1).call hv)
 obtain ⟨hff, hsa⟩ := hon
 obtain ⟨hga, hta⟩ := fullN_zero hff
 obtain ⟨M2, hM2⟩ : ∃ y, y = setM M o i (⟨ca, cb, cx, cd, ce, cf, cg, ch⟩ : Cp) := ⟨_, rfl⟩
 obtain ⟨sn, hsn⟩ : ∃ y, y = setN M o i (⟨ca, cb, cx, cd, ce, cf, cg, ch⟩ : Cp) := ⟨_, rfl⟩
 rw [← hM2, ← hsn]
 have HHa : Hid (∀ v, Below w1.heap.size w1 v → Calls Tryz.prog 79 #[.pointer (some ⟨s.srb, 0, none⟩), slV o i] v fun e w' => e = .returned (.bool true) ∧ Below v.heap.size v w') := hid (fun v hv => by have := rhas (HE.out v hv) hA hl o i; rw [decide_eq_true hga] at this; exact this)
 have HCa : Hid (∀ v, Below w1.heap.size w1 v → Calls Tryz.prog 81 #[.pointer (some ⟨rhb, 0, none⟩), slV o i] v fun e w' => e = .returned ((gt M o i).V) ∧ Below v.heap.size v w') := hid (fun v hv => rcap (HE.out v hv) hA hl o i)
 have HAL : Hid (∀ v, Below w1.heap.size w1 v → Calls Tryz.prog 86 #[Cp.V ⟨ca, cb, cx, cd, ce, cf, cg, ch⟩, (gt M o i).V] v fun e w' => e = .returned (.bool true) ∧ Below v.heap.size v w') := hid (fun v hv => by have := ralike v ⟨ca, cb, cx, cd, ce, cf, cg, ch⟩ (gt M o i); rw [hsa] at this; exact this)
 have HST : Hid (∀ v T, Hd W s hb rhb n L M l l2 T v → Calls Tryz.prog 82 #[.pointer (some ⟨s.srb, 0, none⟩), slV o i, Cp.V ⟨ca, cb, cx, cd, ce, cf, cg, ch⟩] v fun e w' => e = .returned (.int .i64 sn) ∧ Hd W s hb rhb n L M2 l l2 T w' ∧ SameK T v w') := hid (fun v T hv => by rw [hM2, hsn]; exact hv.act (fun K hK => hK.rset hA hl o i _))
 have HW := hid hw1
 generalize gt M o i = t at *
 obtain ⟨ta, tb, tx, td, te, tf, tg, th⟩ := t
 simp only [TabS.Cp.V] at HCa
 have hfdt : ∀ w : World, (Instr.field 33 (.agg #[.int .i64 ta, .int .i64 tb, .int .i64 tx, .int .u64 td, .int .i64 te, .int .i64 tf, .int .i64 tg, .int .i64 th]) 0).run Tryz.prog w = .ok (.int .i64 ta) w := fun _ => by kernel_rfl
 clear h hw1 hb1 hs1 hc1 hA hl
 clear hga hsa hM2 hsn hff
 simp only [] at hta
 have hta' : (ta == 0) = false := beq_eq_false_iff_ne.2 hta
 go_enter Tryz.func38, Tryz.ntmps38
 go_upto_region 1 with fail
 rw [show ((w.alloc (slO o i)).alloc (.cells #[.int .i64 ca, .int .i64 cb, .int .i64 cx, .int .u64 cd, .int .i64 ce, .int .i64 cf, .int .i64 cg, .int .i64 ch] 33)) = w1 from HW.out.symm]
 have RP1 := hid (fun v (hv : KeptQ w1.heap.size w1 v) => (HE.out v (HV1.out.trans (hv.1.mono HV1.out.size))).rc.1)
 have RA1 := hid (fun v (hv : KeptQ w1.heap.size w1 v) => ldS (((HV1.out.trans (hv.1.mono HV1.out.size)).block _ (ags HXA.out).1).trans HXA.out))
 have RF10 := hid (fun v (hv : KeptQ w1.heap.size w1 v) => HHa.out v (HV1.out.trans (hv.1.mono HV1.out.size)))
 refine wp_region_keptQ w1.heap.size w1 (by kernel_rfl) (by kernel_rfl) (KeptQ.refl (Nat.le_refl _)) ?_
 repeat (first
  | go_big_quiet_skip
  | (go_big_quiet_want; first
   | (refine quietQ_load_cell 68 _ rfl ⟨rhb, 0, none⟩ rfl _ RP1.out _ Tryz.underlying68 rfl ?_; simp only [Act.put, List.setIfInBounds_toArray, List.set_cons_zero, List.set_cons_succ]; go_big_quiet_on)
   | (refine quietV 30 _ rfl ⟨w.heap.size, 0, none⟩ rfl _ RA1.out ?_; simp only [Act.put, List.setIfInBounds_toArray, List.set_cons_zero, List.set_cons_succ]; go_big_quiet_on)
   | (go_big_quiet_op; first
    | go_big_quiet_on
    | (refine ⟨_, fun _ _ => rfl, ?_⟩; go_big_quiet_on)
    | go_big_quiet_call ((intro hw; first
     | (go_at_call 79; (with_reducible refine (RF10.out _ hw).mono ?_); rintro e w7 ⟨rfl, hb7⟩; exact ⟨rfl, hw.call hb7⟩))))))
 refine wpQuiet_nil ?_
 intro w2 hq1
 have HV2 := hid (HV1.out.trans (hq1.1.mono HV1.out.size))
 clear hq1 RP1 RA1 RF10
 obtain ⟨k0, k1⟩ := slot_cells (((HV2.out).block _ (ags HXA.out).1).trans HXA.out)
 go_upto_region 5 with (go_at_call 81; (with_reducible refine (HCa.out _ HV2.out).mono ?_); rintro e w3 ⟨rfl, hb3⟩; have HV3 := hid (HV2.out.trans (hb3.mono HV2.out.size)); clear hb3)
 have RA3 := hid (fun v (hv : KeptQ w3.heap.size w3 v) => ldS (((HV3.out.trans (hv.1.mono HV3.out.size)).block _ (ags HXA.out).1).trans HXA.out))
 have RC3 := hid (fun v (hv : KeptQ w3.heap.size w3 v) => ldC (((HV3.out.trans (hv.1.mono HV3.out.size)).block _ (ags HXC.out).1).trans HXC.out))
 have RF30 := hid (fun v (hv : KeptQ w3.heap.size w3 v) => HCa.out v (HV3.out.trans (hv.1.mono HV3.out.size)))
 have RF31 := hid (fun v (hv : KeptQ w3.heap.size w3 v) => HAL.out v (HV3.out.trans (hv.1.mono HV3.out.size)))
 refine wp_region_keptQ w3.heap.size w3 (by kernel_rfl) (by kernel_rfl) (KeptQ.refl (Nat.le_refl _)) ?_
 repeat (first
  | go_big_quiet_skip
  | (go_big_quiet_want; first
   | (refine quietV 30 _ rfl ⟨w.heap.size, 0, none⟩ rfl _ RA3.out ?_; simp only [Act.put, List.setIfInBounds_toArray, List.set_cons_zero, List.set_cons_succ]; go_big_quiet_on)
   | (refine quietV 33 _ rfl ⟨w.heap.size + 1, 0, none⟩ rfl _ RC3.out ?_; simp only [Act.put, List.setIfInBounds_toArray, List.set_cons_zero, List.set_cons_succ]; go_big_quiet_on)
   | (go_big_quiet_op; first
    | go_big_quiet_on
    | (refine ⟨_, fun _ _ => rfl, ?_⟩; go_big_quiet_on)
    | go_big_quiet_call ((intro hw; first
     | (go_at_call 81; (with_reducible refine (RF30.out _ hw).mono ?_); rintro e w7 ⟨rfl, hb7⟩; exact ⟨rfl, hw.call hb7⟩)
     | (go_at_call 86; (with_reducible refine (RF31.out _ hw).mono ?_); rintro e w7 ⟨rfl, hb7⟩; exact ⟨rfl, hw.call hb7⟩))))))
 refine wpQuiet_nil ?_
 intro w4 hq3
 have HV4 := hid (HV3.out.trans (hq3.1.mono HV3.out.size))
 clear hq3 RA3 RC3 RF30 RF31
 clear k0 k1
 have BFA0 := hid (((HV4.out).block _ (ags HXA.out).1).trans HXA.out)
 have BFC0 := hid (((HV4.out).block _ (ags HXC.out).1).trans HXC.out)
 have HBW := hid (HB1.out.trans (HV4.out.mono HB1.out.size))
 have HT0 := hid (HH.out.fresh HBW.out)
 have HNA : Hid (New w w4 (w.heap.size)) := hid ⟨by omega, (ags BFA0.out).1⟩
 have HNC : Hid (New w w4 (w.heap.size + 1)) := hid ⟨by omega, (ags BFC0.out).1⟩
 have HA1 : Hid (w4.cell? ⟨rhb, 0, none⟩ = some (.pointer (some ⟨s.srb, 0, none⟩)) ∧ w4.cell? ⟨w.heap.size, 0, none⟩ = some (.int .i64 o) ∧ w4.cell? ⟨w.heap.size, 1, none⟩ = some (.int .i64 i) ∧ w4.cell? ⟨w.heap.size + 1, 0, none⟩ = some (.int .i64 ca) ∧ w4.cell? ⟨w.heap.size + 1, 1, none⟩ = some (.int .i64 cb) ∧ w4.cell? ⟨w.heap.size + 1, 2, none⟩ = some (.int .i64 cx) ∧ w4.cell? ⟨w.heap.size + 1, 3, none⟩ = some (.int .u64 cd) ∧ w4.cell? ⟨w.heap.size + 1, 4, none⟩ = some (.int .i64 ce) ∧ w4.cell? ⟨w.heap.size + 1, 5, none⟩ = some (.int .i64 cf) ∧ w4.cell? ⟨w.heap.size + 1, 6, none⟩ = some (.int .i64 cg) ∧ w4.cell? ⟨w.heap.size + 1, 7, none⟩ = some (.int .i64 ch)) := hid ⟨HT0.out.rc.1, (slot_cells BFA0.out).1, (slot_cells BFA0.out).2, (cap_cells BFC0.out).1, (cap_cells BFC0.out).2.1, (cap_cells BFC0.out).2.2.1, (cap_cells BFC0.out).2.2.2.1, (cap_cells BFC0.out).2.2.2.2.1, (cap_cells BFC0.out).2.2.2.2.2.1, (cap_cells BFC0.out).2.2.2.2.2.2.1, (cap_cells BFC0.out).2.2.2.2.2.2.2⟩
 have HD1 : Hid (w4.drew.cell? ⟨rhb, 0, none⟩ = some (.pointer (some ⟨s.srb, 0, none⟩)) ∧ w4.drew.cell? ⟨w.heap.size, 0, none⟩ = some (.int .i64 o) ∧ w4.drew.cell? ⟨w.heap.size, 1, none⟩ = some (.int .i64 i) ∧ w4.drew.cell? ⟨w.heap.size + 1, 0, none⟩ = some (.int .i64 ca) ∧ w4.drew.cell? ⟨w.heap.size + 1, 1, none⟩ = some (.int .i64 cb) ∧ w4.drew.cell? ⟨w.heap.size + 1, 2, none⟩ = some (.int .i64 cx) ∧ w4.drew.cell? ⟨w.heap.size + 1, 3, none⟩ = some (.int .u64 cd) ∧ w4.drew.cell? ⟨w.heap.size + 1, 4, none⟩ = some (.int .i64 ce) ∧ w4.drew.cell? ⟨w.heap.size + 1, 5, none⟩ = some (.int .i64 cf) ∧ w4.drew.cell? ⟨w.heap.size + 1, 6, none⟩ = some (.int .i64 cg) ∧ w4.drew.cell? ⟨w.heap.size + 1, 7, none⟩ = some (.int .i64 ch)) := hid HA1.out
 have HE1d := hid (HT0.out.call (show Below w4.heap.size w4 w4.drew from (Below.refl _ _).drew))
 have HC1 := hid (HST.out _ _ HE1d.out)
 go_upto_region 7 with fail
 go_region_held3 (fun w' => w'.cell? ⟨rhb, 0, none⟩ = some (.pointer (some ⟨s.srb, 0, none⟩)) ∧ w'.cell? ⟨w.heap.size, 0, none⟩ = some (.int .i64 o) ∧ w'.cell? ⟨w.heap.size, 1, none⟩ = some (.int .i64 i) ∧ w'.cell? ⟨w.heap.size + 1, 0, none⟩ = some (.int .i64 ca) ∧ w'.cell? ⟨w.heap.size + 1, 1, none⟩ = some (.int .i64 cb) ∧ w'.cell? ⟨w.heap.size + 1, 2, none⟩ = some (.int .i64 cx) ∧ w'.cell? ⟨w.heap.size + 1, 3, none⟩ = some (.int .u64 cd) ∧ w'.cell? ⟨w.heap.size + 1, 4, none⟩ = some (.int .i64 ce) ∧ w'.cell? ⟨w.heap.size + 1, 5, none⟩ = some (.int .i64 cf) ∧ w'.cell? ⟨w.heap.size + 1, 6, none⟩ = some (.int .i64 cg) ∧ w'.cell? ⟨w.heap.size + 1, 7, none⟩ = some (.int .i64 ch))
  (first | (with_reducible exact HA1.out) | (with_reducible exact HD1.out) | (with_reducible exact HF1.out))
  (first | (go_at_call 82; (with_reducible refine HC1.out.mono ?_); rintro e a1 ⟨rfl, hh, hk⟩; have HH1 := hid hh; have bfA := (hk _ (.inr HNA.out)).trans BFA0.out; have BFA1 := hid bfA; have bfC := (hk _ (.inr HNC.out)).trans BFC0.out; have BFC1 := hid bfC; have HK1 := hid hk; have HF1 : Hid (a1.cell? ⟨rhb, 0, none⟩ = some (.pointer (some ⟨s.srb, 0, none⟩)) ∧ a1.cell? ⟨w.heap.size, 0, none⟩ = some (.int .i64 o) ∧ a1.cell? ⟨w.heap.size, 1, none⟩ = some (.int .i64 i) ∧ a1.cell? ⟨w.heap.size + 1, 0, none⟩ = some (.int .i64 ca) ∧ a1.cell? ⟨w.heap.size + 1, 1, none⟩ = some (.int .i64 cb) ∧ a1.cell? ⟨w.heap.size + 1, 2, none⟩ = some (.int .i64 cx) ∧ a1.cell? ⟨w.heap.size + 1, 3, none⟩ = some (.int .u64 cd) ∧ a1.cell? ⟨w.heap.size + 1, 4, none⟩ = some (.int .i64 ce) ∧ a1.cell? ⟨w.heap.size + 1, 5, none⟩ = some (.int .i64 cf) ∧ a1.cell? ⟨w.heap.size + 1, 6, none⟩ = some (.int .i64 cg) ∧ a1.cell? ⟨w.heap.size + 1, 7, none⟩ = some (.int .i64 ch)) := hid ⟨hh.rc.1, (slot_cells bfA).1, (slot_cells bfA).2, (cap_cells bfC).1, (cap_cells bfC).2.1, (cap_cells bfC).2.2.1, (cap_cells bfC).2.2.2.1, (cap_cells bfC).2.2.2.2.1, (cap_cells bfC).2.2.2.2.2.1, (cap_cells bfC).2.2.2.2.2.2.1, (cap_cells bfC).2.2.2.2.2.2.2⟩; clear hh hk bfA bfC))
 all_goals
  go_wp2
  go_ret
  exact ⟨rfl, HH1.out.weak (fun k q => .inl q), fun k q => (HK1.out k (.inl q)).trans (HBW.out.block k (HH.out.lt q))⟩
end HdS
end
end Go.Proofs.YtchjfeafkmpmbaaGreatDoor
