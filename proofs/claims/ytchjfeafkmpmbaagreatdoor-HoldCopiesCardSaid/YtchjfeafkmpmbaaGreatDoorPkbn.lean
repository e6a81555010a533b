import Derived.Test.YtchjfeafkmpmbaaGreatDoorPkbm
namespace Go.Proofs.YtchjfeafkmpmbaaGreatDoor
set_option linter.unusedVariables false
set_option linter.unusedSimpArgs false
set_option maxRecDepth 100000
set_option maxHeartbeats 8000000
open Lib (hid)
section
open Go.ChangeShapes Go.WideShapes Go.ChangeAt Go.RowKit Go.Shelf
namespace HpS
open TabS (Cp Sn zC mayC sizS getR getN FootP foot_ltP SameS AddRel addSR setN setM rowsS hasS dropSR dropSL heldA hdsC)
open TabP (Two Pr)
variable {W w w' : World} {s : Sh} {hb rhb n n' : Nat} {L M L' M' : List Sn} {l l2 l' l2' : List Nod} {S : Nat → Prop}
def childF (q : Int) (sm : Bool) (r : Int) : Int := if q = 1 ∨ q = 3 then q else if sm = false then 5 else if q ≠ 0 then q else r
def childN (L : List Sn) (l : List Nod) (o i p j : Int) (c : Cp) : Int := childF (pairN L o i p j) (someB c) (childA l o i p j).2
def childOn (L : List Sn) (o i p j : Int) (c : Cp) : Prop := pairN L o i p j = 0 ∧ someB c = true
abbrev triW (w : World) (o i p j : Int) (c : Cp) : World := ((w.alloc (slO o i)).alloc (slO p j)).alloc (.cells c.L.toArray 33)
theorem tri_boxes (w : World) (o i p j : Int) (c : Cp) : Below w.heap.size w (triW w o i p j c) ∧ (triW w o i p j c).heap[w.heap.size]? = some (.cells #[.int .i64 o, .int .i64 i] 30 (0, 0)) ∧ (triW w o i p j c).heap[w.heap.size + 1]? = some (.cells #[.int .i64 p, .int .i64 j] 30 (0, 0)) ∧ (triW w o i p j c).heap[w.heap.size + 2]? = some (.cells c.L.toArray 33 (0, 0)) := by
 have h1 := heap_alloc_new (w.alloc (slO o i)) (slO p j)
 have h2 := heap_alloc_new ((w.alloc (slO o i)).alloc (slO p j)) (.cells c.L.toArray 33)
 rw [World.size_alloc] at h1 h2
 rw [World.size_alloc] at h2
 exact ⟨bal (bal (bal (Below.refl _ _) _) _) _, (Below.heap_alloc _ _ _ (by simp; omega)).trans ((Below.heap_alloc _ _ _ (by simp)).trans (heap_alloc_new w _)), (Below.heap_alloc _ _ _ (by simp)).trans h1, h2⟩
theorem hchild_no (h : Hd W s hb rhb n L M l l2 S w) (hT0 : CX.TabG W) (o i p j : Int) (c : Cp) (he : c.e ≤ 9223372036854775807) (hno : ¬ childOn L o i p j c) :
  Calls Tryz.prog 35 #[.pointer (some ⟨hb, 0, none⟩), slV o i, slV p j, c.V] w fun e w' => e = .returned (.int .i64 (childN L l o i p j c)) ∧ Below w.heap.size w w' := by
 obtain ⟨hb1, hs1, ht1, hc1⟩ := tri_boxes w o i p j c
 obtain ⟨w1, hw1⟩ : ∃ y, y = triW w o i p j c := ⟨_, rfl⟩
 rw [← hw1] at hb1 hs1 ht1 hc1
 have H1 := hid (h.call hb1)
 have HB1 := hid hb1
 have HC1 := hid hc1
 have HS1 := hid hs1
 have HR1 := hid ht1
 have HG := hid (hpair H1.out o i p j)
 have HT1 := hid (fun (v : World) (hv : Below w1.heap.size w1 v) => hsome v (hT0.call (H1.out.call hv).below) c he)
 have hsb : someB c = (mayC c && decide (c.a ≠ 0)) := rfl
 rw [← hsb] at HT1
 obtain ⟨N, hN⟩ : ∃ y, y = childN L l o i p j c := ⟨_, rfl⟩
 rw [← hN]
 unfold childN childF at hN
 unfold childOn at hno
 generalize pairC L o i p j = t at *
 generalize pairN L o i p j = cn at *
 generalize someB c = sm at *
 obtain ⟨ta, tb, tx, td, te, tf, tg, th⟩ := t
 obtain ⟨ca, cb, cx, cd, ce, cf, cg, ch⟩ := c
 have HN := hid hN
 clear hN
 obtain ⟨k0, k1⟩ := slot_cells hs1
 obtain ⟨r0, r1⟩ := slot_cells ht1
 have HZ1 := hid (ags hc1).1
 have HW := hid hw1
 clear h hb1 hs1 ht1 hc1 hw1 hsb hT0 he
 go_enter Tryz.func35, Tryz.ntmps35
 go_upto_region 1 with fail
 rw [show (((w.alloc (slO o i)).alloc (slO p j)).alloc (.cells #[.int .i64 ca, .int .i64 cb, .int .i64 cx, .int .u64 cd, .int .i64 ce, .int .i64 cf, .int .i64 cg, .int .i64 ch] 33)) = w1 from HW.out.symm]
 go_upto_region 2 with (go_at_call 68; (with_reducible refine HG.out.mono ?_); rintro e w2 ⟨rfl, hb2⟩; have HB2 := hid hb2; clear hb2)
 obtain ⟨w3, hw3⟩ : ∃ y, y = w2.alloc (.cells #[.int .i64 ta, .int .i64 tb, .int .i64 tx, .int .u64 td, .int .i64 te, .int .i64 tf, .int .i64 tg, .int .i64 th] 33) := ⟨_, rfl⟩
 have hb3 : Below w1.heap.size w1 w3 := hw3 ▸ bal HB2.out _
 have HB3w := hid hb3
 have HZ0 : Hid (w.heap.size < w1.heap.size ∧ w.heap.size + 1 < w1.heap.size) := hid (by have := HZ1.out; omega)
 have HC3 := hid ((hb3.block _ HZ1.out).trans HC1.out)
 have HS3 := hid ((hb3.block _ HZ0.out.1).trans HS1.out)
 have HR3 := hid ((hb3.block _ HZ0.out.2).trans HR1.out)
 have HB3 := hid (HB1.out.trans (hb3.mono HB1.out.size))
 rw [← hw3]
 generalize w2.heap.size = xB at *
 clear hw3 hb3 k0 k1 r0 r1 HG H1 HB1 HC1 HB2 HS1 HR1
 obtain ⟨x0, x1, x2, x3, x4, x5, x6, x7⟩ := cap_cells HC3.out
 simp only [] at x0 x1 x2 x3 x4 x5 x6 x7
 have HSM := hid (HT1.out w3 HB3w.out)
 by_cases q1 : cn = 1
 ·subst q1
  obtain rfl : N = 1 := by rw [HN.out]; rfl
  go_wp2
  go_ret
  exact ⟨rfl, HB3.out⟩
 ·by_cases q3 : cn = 3
  ·subst q3
   obtain rfl : N = 3 := by rw [HN.out]; rfl
   go_wp2
   go_ret
   exact ⟨rfl, HB3.out⟩
  ·have q4 : ¬ (cn = 1 ∨ cn = 3) := fun e => e.elim q1 q3
   have q5 : (cn == 1) = false := beq_eq_false_iff_ne.2 q1
   have q6 : (cn == 3) = false := beq_eq_false_iff_ne.2 q3
   cases sm with
   | false =>
    obtain rfl : N = 5 := by rw [HN.out, if_neg q4]; rfl
    go_wp2_with (go_at_call 76; (with_reducible refine HSM.out.mono ?_); rintro e w4 ⟨rfl, hb4⟩; have HB4 := hid (HB3.out.trans (hb4.mono HB3.out.size)); clear hb4)
    go_ret
    exact ⟨rfl, HB4.out⟩
   | true =>
    have q0 : cn ≠ 0 := fun e => hno ⟨e, rfl⟩
    obtain rfl : cn = N := by rw [HN.out, if_neg q4, if_neg (by decide), if_pos q0]
    go_wp2_with (go_at_call 76; (with_reducible refine HSM.out.mono ?_); rintro e w4 ⟨rfl, hb4⟩; have HB4 := hid (HB3.out.trans (hb4.mono HB3.out.size)); clear hb4)
    go_ret
    exact ⟨rfl, HB4.out⟩
theorem hchild_yes (h : Hd W s hb rhb n L M l l2 S w) (hT0 : CX.TabG W) (o i p j : Int) (ho : InS o) (hi : InS i) (hp : InS p) (hj : InS j) (c : Cp) (he : c.e ≤ 9223372036854775807) (hnn : n < 1000000) (hon : childOn L o i p j c) :
  Calls Tryz.prog 35 #[.pointer (some ⟨hb, 0, none⟩), slV o i, slV p j, c.V] w fun e w' => e = .returned (.int .i64 (childA l o i p j).2) ∧ Hd W s hb rhb (n + 1) (setM L p j c) M (childA l o i p j).1 l2 S w' ∧ SameK S w w' := by
 obtain ⟨hb1, hs1, ht1, hc1⟩ := tri_boxes w o i p j c
 obtain ⟨w1, hw1⟩ : ∃ y, y = triW w o i p j c := ⟨_, rfl⟩
 rw [← hw1] at hb1 hs1 ht1 hc1
 have H1 := hid (h.call hb1)
 have HB1 := hid hb1
 have HC1 := hid hc1
 have HS1 := hid hs1
 have HR1 := hid ht1
 have HG := hid (hpair H1.out o i p j)
 have HT1 := hid (fun (v : World) (hv : Below w1.heap.size w1 v) => hsome v (hT0.call (H1.out.call hv).below) c he)
 have hsb : someB c = (mayC c && decide (c.a ≠ 0)) := rfl
 rw [← hsb] at HT1
 have HH := hid h
 unfold childOn at hon
 obtain ⟨L2, hL2⟩ : ∃ y, y = setM L p j c := ⟨_, rfl⟩
 obtain ⟨RA, hRA⟩ : ∃ y, y = childA l o i p j := ⟨_, rfl⟩
 rw [← hL2, ← hRA]
 have HST : Hid (∀ v T, Hd W s hb rhb n L M l l2 T v → Calls Tryz.prog 71 #[.pointer (some ⟨s.sb, 0, none⟩), slV p j, c.V] v fun e w' => e = .returned (.int .i64 (setN L p j c)) ∧ Hd W s hb rhb n L2 M l l2 T w' ∧ SameK T v w') := hid (fun v T hv => by rw [hL2]; exact hv.act (fun K hK => hK.set hT0 p j c he))
 have HRT : Hid (∀ v T, Hd W s hb rhb n L2 M l l2 T v → Calls Tryz.prog 84 #[.pointer (some ⟨s.tb, 0, none⟩), slV o i, slV p j] v fun e w' => e = .returned (.int .i64 RA.2) ∧ Hd W s hb rhb (n + 1) L2 M RA.1 l2 T w' ∧ SameK T v w') := hid (fun v T hv => by rw [hRA]; exact hv.act (fun K hK => hK.child o i p j ho hi hp hj hnn))
 clear hL2 hRA
 generalize setN L p j c = sn at *
 generalize pairC L o i p j = t at *
 generalize pairN L o i p j = cn at *
 generalize someB c = sm at *
 obtain ⟨ta, tb, tx, td, te, tf, tg, th⟩ := t
 obtain ⟨ca, cb, cx, cd, ce, cf, cg, ch⟩ := c
 obtain ⟨rfl, rfl⟩ := hon
 obtain ⟨k0, k1⟩ := slot_cells hs1
 obtain ⟨r0, r1⟩ := slot_cells ht1
 have HZ1 := hid (ags hc1).1
 have HW := hid hw1
 clear h hb1 hs1 ht1 hc1 hw1 hsb hT0 he ho hi hp hj hnn
 go_enter Tryz.func35, Tryz.ntmps35
 go_upto_region 1 with fail
 rw [show (((w.alloc (slO o i)).alloc (slO p j)).alloc (.cells #[.int .i64 ca, .int .i64 cb, .int .i64 cx, .int .u64 cd, .int .i64 ce, .int .i64 cf, .int .i64 cg, .int .i64 ch] 33)) = w1 from HW.out.symm]
 go_upto_region 2 with (go_at_call 68; (with_reducible refine HG.out.mono ?_); rintro e w2 ⟨rfl, hb2⟩; have HB2 := hid hb2; clear hb2)
 obtain ⟨w3, hw3⟩ : ∃ y, y = w2.alloc (.cells #[.int .i64 ta, .int .i64 tb, .int .i64 tx, .int .u64 td, .int .i64 te, .int .i64 tf, .int .i64 tg, .int .i64 th] 33) := ⟨_, rfl⟩
 have hb3 : Below w1.heap.size w1 w3 := hw3 ▸ bal HB2.out _
 have HB3w := hid hb3
 have HZ0 : Hid (w.heap.size < w1.heap.size ∧ w.heap.size + 1 < w1.heap.size) := hid (by have := HZ1.out; omega)
 have HC3 := hid ((hb3.block _ HZ1.out).trans HC1.out)
 have HS3 := hid ((hb3.block _ HZ0.out.1).trans HS1.out)
 have HR3 := hid ((hb3.block _ HZ0.out.2).trans HR1.out)
 have HB3 := hid (HB1.out.trans (hb3.mono HB1.out.size))
 rw [← hw3]
 generalize w2.heap.size = xB at *
 clear hw3 hb3 k0 k1 r0 r1 HG H1 HB1 HC1 HB2 HS1 HR1
 obtain ⟨x0, x1, x2, x3, x4, x5, x6, x7⟩ := cap_cells HC3.out
 simp only [] at x0 x1 x2 x3 x4 x5 x6 x7
 have HSM := hid (HT1.out w3 HB3w.out)
 go_upto_region 8 with (go_at_call 76; (with_reducible refine HSM.out.mono ?_); rintro e w4 ⟨rfl, hb4⟩; have HB4 := hid hb4; clear hb4)
 have HC4 := hid ((HB4.out.block _ (ags HC3.out).1).trans HC3.out)
 have HS4 := hid ((HB4.out.block _ (ags HS3.out).1).trans HS3.out)
 have HR4 := hid ((HB4.out.block _ (ags HR3.out).1).trans HR3.out)
 have HW4 := hid (HB3.out.trans (HB4.out.mono HB3.out.size))
 have HE4 := hid (HH.out.fresh HW4.out)
 have HE4d := hid (HE4.out.call (show Below w4.heap.size w4 w4.drew from (Below.refl _ _).drew))
 have HBX4 := hid (Bx2.of HE4.out HR4.out HC4.out).a
 have HNS : Hid (New w w4 w.heap.size ∧ New w w4 (w.heap.size + 1) ∧ New w w4 (w.heap.size + 2)) := hid ⟨⟨Nat.le_refl _, (ags HS4.out).1⟩, ⟨by omega, (ags HR4.out).1⟩, ⟨by omega, (ags HC4.out).1⟩⟩
 have HSC := hid (HST.out _ _ HE4d.out)
 have HBd : Hid (Bx2A w4.drew hb s p j ⟨ca, cb, cx, cd, ce, cf, cg, ch⟩ (w.heap.size + 1) (w.heap.size + 2)) := hid HBX4.out
 clear x0 x1 x2 x3 x4 x5 x6 x7 HT1 HSM HB3w HB3 HC3 HS3 HR3 HB4 HST
 go_region_held3 (fun w' => w'.cell? ⟨hb, 0, none⟩ = some (.pointer (some ⟨s.sb, 0, none⟩)) ∧ w'.cell? ⟨w.heap.size + 1, 0, none⟩ = some (.int .i64 p) ∧ w'.cell? ⟨w.heap.size + 1, 1, none⟩ = some (.int .i64 j) ∧ w'.cell? ⟨w.heap.size + 2, 0, none⟩ = some (.int .i64 ca) ∧ w'.cell? ⟨w.heap.size + 2, 1, none⟩ = some (.int .i64 cb) ∧ w'.cell? ⟨w.heap.size + 2, 2, none⟩ = some (.int .i64 cx) ∧ w'.cell? ⟨w.heap.size + 2, 3, none⟩ = some (.int .u64 cd) ∧ w'.cell? ⟨w.heap.size + 2, 4, none⟩ = some (.int .i64 ce) ∧ w'.cell? ⟨w.heap.size + 2, 5, none⟩ = some (.int .i64 cf) ∧ w'.cell? ⟨w.heap.size + 2, 6, none⟩ = some (.int .i64 cg) ∧ w'.cell? ⟨w.heap.size + 2, 7, none⟩ = some (.int .i64 ch))
  (first | (with_reducible exact HBX4.out) | (with_reducible exact HBd.out) | (with_reducible exact HB5.out))
  (first | (go_at_call 71; (with_reducible refine HSC.out.mono ?_); rintro e w5 ⟨rfl, h5, hk5⟩; have H5 := hid h5; have HK5 := hid hk5; have hs5 := (hk5 _ (.inr HNS.out.1)).trans HS4.out; have hr5 := (hk5 _ (.inr HNS.out.2.1)).trans HR4.out; have hc5 := (hk5 _ (.inr HNS.out.2.2)).trans HC4.out; have HS5 := hid hs5; have HR5 := hid hr5; have HB5 := hid (Bx2.of h5 hr5 hc5).a; clear h5 hk5 hs5 hr5 hc5))
 have HBX5 : Hid (w5.cell? ⟨hb, 1, none⟩ = some (.pointer (some ⟨s.tb, 0, none⟩)) ∧ w5.cell? ⟨w.heap.size, 0, none⟩ = some (.int .i64 o) ∧ w5.cell? ⟨w.heap.size, 1, none⟩ = some (.int .i64 i) ∧ w5.cell? ⟨w.heap.size + 1, 0, none⟩ = some (.int .i64 p) ∧ w5.cell? ⟨w.heap.size + 1, 1, none⟩ = some (.int .i64 j)) := hid ⟨H5.out.c.2.1, (slot_cells HS5.out).1, (slot_cells HS5.out).2, (slot_cells HR5.out).1, (slot_cells HR5.out).2⟩
 have HBX5d : Hid (w5.drew.cell? ⟨hb, 1, none⟩ = some (.pointer (some ⟨s.tb, 0, none⟩)) ∧ w5.drew.cell? ⟨w.heap.size, 0, none⟩ = some (.int .i64 o) ∧ w5.drew.cell? ⟨w.heap.size, 1, none⟩ = some (.int .i64 i) ∧ w5.drew.cell? ⟨w.heap.size + 1, 0, none⟩ = some (.int .i64 p) ∧ w5.drew.cell? ⟨w.heap.size + 1, 1, none⟩ = some (.int .i64 j)) := hid HBX5.out
 have H5d := hid (H5.out.call (show Below w5.heap.size w5 w5.drew from (Below.refl _ _).drew))
 have HRC := hid (HRT.out _ _ H5d.out)
 have HS0 : Hid (∀ k, S k → w5.heap[k]? = w.heap[k]?) := hid (fun k q => (HK5.out k (.inl q)).trans (HW4.out.block k (HH.out.lt q)))
 clear HB5 HSC HRT HBX4 HBd HC4 HS4 HR4 HE4 HE4d
 go_upto_region 9 with fail
 go_region_held3 (fun w' => w'.cell? ⟨hb, 1, none⟩ = some (.pointer (some ⟨s.tb, 0, none⟩)) ∧ w'.cell? ⟨w.heap.size, 0, none⟩ = some (.int .i64 o) ∧ w'.cell? ⟨w.heap.size, 1, none⟩ = some (.int .i64 i) ∧ w'.cell? ⟨w.heap.size + 1, 0, none⟩ = some (.int .i64 p) ∧ w'.cell? ⟨w.heap.size + 1, 1, none⟩ = some (.int .i64 j))
  (first | (with_reducible exact HBX5.out) | (with_reducible exact HBX5d.out) | (with_reducible exact HB6.out))
  (first | (go_at_call 84; (with_reducible refine HRC.out.mono ?_); rintro e w6 ⟨rfl, h6, hk6⟩; have H6 := hid h6; have HK6 := hid hk6; have hs6 := (hk6 _ (.inr HNS.out.1)).trans HS5.out; have hr6 := (hk6 _ (.inr HNS.out.2.1)).trans HR5.out; have HB6 : Hid (w6.cell? ⟨hb, 1, none⟩ = some (.pointer (some ⟨s.tb, 0, none⟩)) ∧ w6.cell? ⟨w.heap.size, 0, none⟩ = some (.int .i64 o) ∧ w6.cell? ⟨w.heap.size, 1, none⟩ = some (.int .i64 i) ∧ w6.cell? ⟨w.heap.size + 1, 0, none⟩ = some (.int .i64 p) ∧ w6.cell? ⟨w.heap.size + 1, 1, none⟩ = some (.int .i64 j)) := hid ⟨h6.c.2.1, (slot_cells hs6).1, (slot_cells hs6).2, (slot_cells hr6).1, (slot_cells hr6).2⟩; clear h6 hk6 hs6 hr6))
 all_goals
  go_wp2
  go_ret
  exact ⟨rfl, H6.out.weak (fun k q => .inl q), fun k q => (HK6.out k (.inl q)).trans (HS0.out k q)⟩
def sameC (x y : Cp) : Bool := CX.alikeB (mayC x) (mayC y) x.a y.a x.b y.b
theorem halike (w : World) (hT : CX.TabG w) (x y : Cp) (hx : x.e ≤ 9223372036854775807) (hy : y.e ≤ 9223372036854775807) :
  Calls Tryz.prog 22 #[x.V, y.V] w fun e w' => e = .returned (.bool (sameC x y)) ∧ Below w.heap.size w w' := CX.alike_any x.a x.b x.c x.d x.e x.f x.g x.h y.a y.b y.c y.d y.e y.f y.g y.h w hT hx hy
def hsetN (L : List Sn) (o i : Int) (c : Cp) : Int := if fullN L o i ≠ 0 then fullN L o i else if sameC c (gt L o i) = false then 5 else setN L o i c
def hsetOn (L : List Sn) (o i : Int) (c : Cp) : Prop := fullN L o i = 0 ∧ sameC c (gt L o i) = true
theorem duo_boxes (w : World) (o i p j : Int) : Below w.heap.size w ((w.alloc (slO o i)).alloc (slO p j)) ∧ ((w.alloc (slO o i)).alloc (slO p j)).heap[w.heap.size]? = some (.cells #[.int .i64 o, .int .i64 i] 30 (0, 0)) ∧ ((w.alloc (slO o i)).alloc (slO p j)).heap[w.heap.size + 1]? = some (.cells #[.int .i64 p, .int .i64 j] 30 (0, 0)) := by
 have h1 := heap_alloc_new (w.alloc (slO o i)) (slO p j)
 rw [World.size_alloc] at h1
 exact ⟨bal (bal (Below.refl _ _) _) _, (Below.heap_alloc _ _ _ (by simp)).trans (heap_alloc_new w _), h1⟩
def swapN (L : List Sn) (o i p j : Int) : Int := if gn L o i ≠ 0 then gn L o i else gn L p j
def swapL (L : List Sn) (o i p j : Int) : List Sn := setM (setM L o i (gt L p j)) p j (gt L o i)
theorem fullN_zero {L : List Sn} {o i : Int} (h : fullN L o i = 0) : gn L o i = 0 ∧ (gt L o i).a ≠ 0 := by
 unfold fullN at h
 split at h
 ·cases h
 ·rename_i h1
  exact ⟨h, fun e => h1 ⟨h, e⟩⟩
theorem pairN_zero {L : List Sn} {o i p j : Int} (h : pairN L o i p j = 0) : gn L p j = 0 ∧ fullN L o i = 0 ∧ (gt L p j).a = 0 := by
 unfold pairN pairF at h
 split at h
 ·rename_i h1; exact (h1 h).elim
 ·rename_i h1
  split at h
  ·rename_i h2; exact (h2 h).elim
  ·rename_i h2
   split at h
   ·cases h
   ·rename_i h3
    exact ⟨Decidable.not_not.1 h1, Decidable.not_not.1 h2, Decidable.not_not.1 h3⟩
theorem hadd (h : Hd W s hb rhb n L M l l2 S w) (hl : L.length < 1000000) (id k : Int) :
  Calls Tryz.prog 29 #[.pointer (some ⟨hb, 0, none⟩), .int .i64 id, .int .i64 k] w fun e w' => e = .returned (.int .i64 (addSR L id k)) ∧ ∃ L', AddRel L id k L' ∧ Hd W s hb rhb n L' M l l2 S w' ∧ SameK S w w' := by
 have HS := hid (hslots h)
 have HC := hid (h.bo.add hl id k)
 have HH := hid h
 generalize addSR L id k = r at *
 clear h
 go_enter Tryz.func29, Tryz.ntmps29
 go_wp2_with (first
  | (go_at_call 51; (with_reducible refine HS.out.mono ?_); rintro e w2 ⟨rfl, rfl⟩)
  | (go_at_call 75; (with_reducible refine HC.out.mono ?_); rintro e w3 ⟨rfl, L3, hr3, hb3, hk3⟩; have HR := hid hr3; have HB := hid hb3; have HK := hid hk3; clear hr3 hb3 hk3))
 go_ret
 exact ⟨rfl, L3, HR.out, HH.out.lift HB.out HK.out, fun k q => HK.out k (.inr q)⟩
end HpS
end
section
open Go.ChangeShapes Go.WideShapes Go.ChangeAt Go.RowKit Go.Shelf
namespace HpS
open TabS (Cp Sn zC mayC sizS getR getN FootP foot_ltP SameS AddRel addSR setN setM rowsS hasS dropSR dropSL heldA hdsC)
open TabP (Two Pr)
def toX (c : Cp) : CX.CapX := ⟨c.a, c.b, c.c, c.d, c.e, c.f, c.g, c.h⟩
def ofX (x : CX.CapX) : Cp := ⟨x.a, x.b, x.c, x.d, x.e, x.f, x.g, x.h⟩
def cpy (c : Cp) (m : Int) : Cp × Int := (ofX (CX.copyX (toX c) m).1, (CX.copyX (toX c) m).2)
theorem dcopy (w : World) (hT : CX.TabG w) (c : Cp) (m : Int) (he : c.e ≤ 9223372036854775807) :
  Calls Tryz.prog 63 #[c.V, .int .i64 m] w fun e w' => e = .returned (.tuple #[(cpy c m).1.V, .int .i64 (cpy c m).2]) ∧ Below w.heap.size w w' := CX.copyD (toX c) m he w hT
theorem cap_boxes (w : World) (c : Cp) : Below w.heap.size w ((w.alloc (.cells c.L.toArray 33)).alloc (.cells zC.L.toArray 33)) ∧ ((w.alloc (.cells c.L.toArray 33)).alloc (.cells zC.L.toArray 33)).heap[w.heap.size]? = some (.cells c.L.toArray 33 (0, 0)) ∧ ((w.alloc (.cells c.L.toArray 33)).alloc (.cells zC.L.toArray 33)).heap[w.heap.size + 1]? = some (.cells zC.L.toArray 33 (0, 0)) := by
 refine ⟨bal (bal (Below.refl _ _) _) _, (Below.heap_alloc _ _ _ (by simp)).trans (heap_alloc_new w _), ?_⟩
 have := heap_alloc_new (w.alloc (.cells c.L.toArray 33)) (.cells zC.L.toArray 33)
 rwa [World.size_alloc] at this
theorem hcopy1 (w : World) (hT : CX.TabG w) (c : Cp) (m : Int) (mB : Nat) (he : c.e ≤ 9223372036854775807) (hm : w.cell? ⟨mB, 0, none⟩ = some (.int .i64 m)) (hz : mB < w.heap.size) :
  Calls Tryz.prog 62 #[c.V, .pointer (some ⟨mB, 0, none⟩)] w fun e w' => e = .returned (.tuple #[(cpy c m).1.V, .int .i64 (cpy c m).2]) ∧ Below w.heap.size w w' := by
 obtain ⟨hb1, hx1, hc1⟩ := cap_boxes w c
 obtain ⟨w1, hw1⟩ : ∃ y, y = (w.alloc (.cells c.L.toArray 33)).alloc (.cells zC.L.toArray 33) := ⟨_, rfl⟩
 rw [← hw1] at hb1 hx1 hc1
 have HB1 := hid hb1
 have HC1 := hid hc1
 have HD := hid (dcopy w1 (hT.call hb1) c m he)
 have hm1 := (hb1.cell (p := ⟨mB, 0, none⟩) hz).trans hm
 generalize cpy c m = r at *
 obtain ⟨⟨ca, cb, cx, cd, ce, cf, cg, ch⟩, k⟩ := r
 obtain ⟨ta, tb, tx, td, te, tf, tg, th⟩ := c
 obtain ⟨x0, x1, x2, x3, x4, x5, x6, x7⟩ := cap_cells hx1
 simp only [] at x0 x1 x2 x3 x4 x5 x6 x7
 have HZ1 := hid (ags hc1).1
 have HW := hid hw1
 clear hb1 hx1 hc1 hw1 hT he hm hz
 go_enter Tryz.func62, Tryz.ntmps62
 go_upto_region 1 with fail
 rw [show ((w.alloc (.cells #[.int .i64 ta, .int .i64 tb, .int .i64 tx, .int .u64 td, .int .i64 te, .int .i64 tf, .int .i64 tg, .int .i64 th] 33)).alloc (.cells #[.int .i64 0, .int .i64 0, .int .i64 0, .int .u64 0, .int .i64 0, .int .i64 0, .int .i64 0, .int .i64 0] 33)) = w1 from HW.out.symm]
 go_wp2_with (go_at_call 63; (with_reducible refine HD.out.mono ?_); rintro e w3 ⟨rfl, hb3⟩; have HB3 := hid hb3; have hc3 := (hb3.block _ HZ1.out).trans HC1.out; have HC3 := hid hc3; obtain ⟨y0, y1, y2, y3, y4, y5, y6, y7⟩ := cap_cells hc3; have g0 := cap_froz hc3 0; have g1 := cap_froz hc3 1; have g2 := cap_froz hc3 2; have g3 := cap_froz hc3 3; have g4 := cap_froz hc3 4; have g5 := cap_froz hc3 5; have g6 := cap_froz hc3 6; have g7 := cap_froz hc3 7; have hz3 := (ags hc3).1; clear hb3 hc3)
 have HF := hid (lay8_same ⟨ca, cb, cx, cd, ce, cf, cg, ch⟩ HC3.out)
 have HFB := hid (lay8_below (k := w.heap.size + 1) ⟨ca, cb, cx, cd, ce, cf, cg, ch⟩ (HB1.out.trans (HB3.out.mono HB1.out.size)) (by omega))
 obtain ⟨w4, hw4⟩ : ∃ y, y = lay8 w3 (w.heap.size + 1) ⟨ca, cb, cx, cd, ce, cf, cg, ch⟩ := ⟨_, rfl⟩
 rw [← hw4] at HF HFB
 simp only [lay8] at hw4
 rw [← hw4]
 clear hw4
 obtain ⟨q0, q1, q2, q3, q4, q5, q6, q7⟩ := cap_cells HF.out
 simp only [] at q0 q1 q2 q3 q4 q5 q6 q7
 exact bodyPost_ret (v := .tuple #[.agg #[.int .i64 ca, .int .i64 cb, .int .i64 cx, .int .u64 cd, .int .i64 ce, .int .i64 cf, .int .i64 cg, .int .i64 ch], .int .i64 k]) (by simp [results, Tryz.results62, go_sem, q0, q1, q2, q3, q4, q5, q6, q7]) rfl ⟨rfl, HFB.out⟩
end HpS
end
section
open Go.ChangeShapes Go.WideShapes Go.ChangeAt Go.RowKit Go.Shelf
namespace HpS
open TabS (Cp Sn zC mayC sizS getR getN FootP foot_ltP SameS AddRel addSR setN setM rowsS hasS dropSR dropSL heldA hdsC)
open TabP (Two Pr)
variable {W w w' : World} {s : Sh} {hb rhb n n' : Nat} {L M L' M' : List Sn} {l l2 l' l2' : List Nod} {S : Nat → Prop}
theorem pairC_zero {L : List Sn} {o i p j : Int} (h : pairN L o i p j = 0) : pairC L o i p j = gt L o i := by unfold pairC; rw [if_pos h]
theorem hderived_no (h : Hd W s hb rhb n L M l l2 S w) (o i p j : Int) (F : FuncId) (B : Array Value) (r : Cp × Int) (hF : ∀ v, Below w.heap.size w v → Calls Tryz.prog F (#[(gt L o i).V] ++ B) v fun e w' => e = .returned (.tuple #[r.1.V, .int .i64 r.2]) ∧ Below v.heap.size v w') (hno : pairN L o i p j ≠ 0) :
  Calls Tryz.prog 61 #[.pointer (some ⟨hb, 0, none⟩), slV o i, slV p j, .func (.func F) #[] B] w fun e w' => e = .returned (.int .i64 (pairN L o i p j)) ∧ Below w.heap.size w w' := by
 obtain ⟨hb1, hs1, ht1⟩ := duo_boxes w o i p j
 obtain ⟨w1, hw1⟩ : ∃ y, y = (w.alloc (slO o i)).alloc (slO p j) := ⟨_, rfl⟩
 rw [← hw1] at hb1 hs1 ht1
 have HB1 := hid hb1
 have HG := hid (hpair (h.call hb1) o i p j)
 generalize pairC L o i p j = t at *
 generalize pairN L o i p j = cn at *
 obtain ⟨ta, tb, tx, td, te, tf, tg, th⟩ := t
 obtain ⟨k0, k1⟩ := slot_cells hs1
 obtain ⟨r0, r1⟩ := slot_cells ht1
 have HW := hid hw1
 clear h hb1 hs1 ht1 hw1 hF
 go_enter Tryz.func61, Tryz.ntmps61
 go_upto_region 1 with fail
 rw [show ((w.alloc (slO o i)).alloc (slO p j)) = w1 from HW.out.symm]
 go_wp2_with (go_at_call 68; (with_reducible refine HG.out.mono ?_); rintro e w2 ⟨rfl, hb2⟩; have HB2 := hid hb2; clear hb2)
 go_ret
 exact ⟨rfl, bal (HB1.out.trans (HB2.out.mono HB1.out.size)) _⟩
theorem Hd.mono (h : Hd W s hb rhb n L M l l2 S w) (hn : n ≤ n') : Hd W s hb rhb n' L M l l2 S w := ⟨h.bo.mono hn, h.hd⟩
theorem Hd.same (h : Hd W s hb rhb n L M l l2 S w) (hB : Below w.heap.size w w') : SameK S w w' := fun k q => hB.block k (h.lt q)
def chB (L : List Sn) (o i p j : Int) (c : Cp) : Bool := decide (pairN L o i p j = 0) && someB c
theorem chB_on {L : List Sn} {o i p j : Int} {c : Cp} : chB L o i p j c = true ↔ childOn L o i p j c := by unfold chB childOn; simp
def chL (L : List Sn) (o i p j : Int) (c : Cp) : List Sn := if chB L o i p j c = true then setM L p j c else L
def chT (L : List Sn) (l : List Nod) (o i p j : Int) (c : Cp) : List Nod := if chB L o i p j c = true then (childA l o i p j).1 else l
theorem hchild (h : Hd W s hb rhb n L M l l2 S w) (hT0 : CX.TabG W) (o i p j : Int) (ho : InS o) (hi : InS i) (hp : InS p) (hj : InS j) (c : Cp) (he : c.e ≤ 9223372036854775807) (hnn : n < 1000000) :
  Calls Tryz.prog 35 #[.pointer (some ⟨hb, 0, none⟩), slV o i, slV p j, c.V] w fun e w' => e = .returned (.int .i64 (childN L l o i p j c)) ∧ Hd W s hb rhb (n + 1) (chL L o i p j c) M (chT L l o i p j c) l2 S w' ∧ SameK S w w' := by
 unfold chL chT
 cases hc : chB L o i p j c with
 | true =>
  have hon := chB_on.1 hc
  refine (hchild_yes h hT0 o i p j ho hi hp hj c he hnn hon).mono ?_
  rintro e w' ⟨he, h1, h2⟩
  refine ⟨?_, h1, h2⟩
  rw [he]
  unfold childN childF
  rw [hon.1, hon.2]
  rfl
 | false =>
  refine (hchild_no h hT0 o i p j c he (fun z => by rw [chB_on.2 z] at hc; cases hc)).mono ?_
  rintro e w' ⟨he, hB⟩
  exact ⟨he, (h.call hB).mono (Nat.le_succ n), h.same hB⟩
def derN (L : List Sn) (l : List Nod) (o i p j : Int) (r : Cp × Int) : Int := if pairN L o i p j ≠ 0 then pairN L o i p j else if r.2 ≠ 0 then r.2 else childN L l o i p j r.1
def derL (L : List Sn) (o i p j : Int) (r : Cp × Int) : List Sn := if pairN L o i p j = 0 ∧ r.2 = 0 then chL L o i p j r.1 else L
def derT (L : List Sn) (l : List Nod) (o i p j : Int) (r : Cp × Int) : List Nod := if pairN L o i p j = 0 ∧ r.2 = 0 then chT L l o i p j r.1 else l
theorem hcopyD (h : Hd W s hb rhb n L M l l2 S w) (hT0 : CX.TabG W) (o i p j : Int) (ho : InS o) (hi : InS i) (hp : InS p) (hj : InS j) (m : Int) (mB : Nat) (hx : (gt L o i).e ≤ 9223372036854775807) (hr : (cpy (gt L o i) m).1.e ≤ 9223372036854775807) (hm : w.cell? ⟨mB, 0, none⟩ = some (.int .i64 m)) (hz : mB < w.heap.size) (hnn : n < 1000000) :
  Calls Tryz.prog 61 #[.pointer (some ⟨hb, 0, none⟩), slV o i, slV p j, .func (.func 62) #[] #[.pointer (some ⟨mB, 0, none⟩)]] w fun e w' => e = .returned (.int .i64 (derN L l o i p j (cpy (gt L o i) m))) ∧ Hd W s hb rhb (n + 1) (derL L o i p j (cpy (gt L o i) m)) M (derT L l o i p j (cpy (gt L o i) m)) l2 S w' ∧ SameK S w w' := by
 have HCL : Hid (∀ v, Below w.heap.size w v → Calls Tryz.prog 62 (#[(gt L o i).V] ++ #[.pointer (some ⟨mB, 0, none⟩)]) v fun e w' => e = .returned (.tuple #[(cpy (gt L o i) m).1.V, .int .i64 (cpy (gt L o i) m).2]) ∧ Below v.heap.size v w') := hid (fun v hv => hcopy1 v (hT0.call (h.call hv).below) (gt L o i) m mB hx ((hv.cell (p := ⟨mB, 0, none⟩) hz).trans hm) (Nat.lt_of_lt_of_le hz hv.size))
 generalize (cpy (gt L o i) m) = r at *
 unfold derN derL derT
 by_cases hon : pairN L o i p j = 0
 ·obtain ⟨hb1, hs1, ht1⟩ := duo_boxes w o i p j
  obtain ⟨w1, hw1⟩ : ∃ y, y = (w.alloc (slO o i)).alloc (slO p j) := ⟨_, rfl⟩
  rw [← hw1] at hb1 hs1 ht1
  have HB1 := hid hb1
  have H1 := hid (h.call hb1)
  have HH := hid h
  have HS1 := hid hs1
  have HR1 := hid ht1
  have HG := hid (hpair H1.out o i p j)
  rw [pairC_zero hon, hon] at HG
  rw [if_neg (fun e => e hon)]
  have HCH := hid (fun (v : World) (hv : Hd W s hb rhb n L M l l2 S v) => hchild hv hT0 o i p j ho hi hp hj r.1 hr hnn)
  have HP := hid hon
  clear hon hr hT0 hnn hm hz ho hi hp hj hx
  obtain ⟨⟨ca, cb, cx, cd, ce, cf, cg, ch⟩, k⟩ := r
  obtain ⟨N, hN⟩ : ∃ y, y = childN L l o i p j ⟨ca, cb, cx, cd, ce, cf, cg, ch⟩ := ⟨_, rfl⟩
  obtain ⟨L2, hL2⟩ : ∃ y, y = chL L o i p j ⟨ca, cb, cx, cd, ce, cf, cg, ch⟩ := ⟨_, rfl⟩
  obtain ⟨l3, hl3⟩ : ∃ y, y = chT L l o i p j ⟨ca, cb, cx, cd, ce, cf, cg, ch⟩ := ⟨_, rfl⟩
  rw [← hN, ← hL2, ← hl3] at HCH
  simp only []
  rw [← hN, ← hL2, ← hl3]
  clear hN hL2 hl3
  obtain ⟨RN, hRN⟩ : ∃ y : Int, y = (if k ≠ 0 then k else N) := ⟨_, rfl⟩
  obtain ⟨RL, hRL⟩ : ∃ y : List Sn, y = (if pairN L o i p j = 0 ∧ k = 0 then L2 else L) := ⟨_, rfl⟩
  obtain ⟨RT, hRT⟩ : ∃ y : List Nod, y = (if pairN L o i p j = 0 ∧ k = 0 then l3 else l) := ⟨_, rfl⟩
  rw [← hRN, ← hRL, ← hRT]
  have HRN := hid hRN
  have HRL := hid hRL
  have HRT := hid hRT
  clear hRN hRL hRT
  generalize gt L o i = t at *
  obtain ⟨ta, tb, tx, td, te, tf, tg, th⟩ := t
  obtain ⟨k0, k1⟩ := slot_cells hs1
  obtain ⟨r0, r1⟩ := slot_cells ht1
  have HZ1 := hid (ags ht1).1
  have HZ0 := hid (ags hs1).1
  have HW := hid hw1
  clear h hb1 hs1 ht1 hw1
  go_enter Tryz.func61, Tryz.ntmps61
  go_upto_region 1 with fail
  rw [show ((w.alloc (slO o i)).alloc (slO p j)) = w1 from HW.out.symm]
  go_upto_region 4 with (go_at_call 68; (with_reducible refine HG.out.mono ?_); rintro e w2 ⟨rfl, hb2⟩; have HB2 := hid hb2; clear hb2)
  obtain ⟨w3, hw3⟩ : ∃ y, y = w2.alloc (.cells #[.int .i64 ta, .int .i64 tb, .int .i64 tx, .int .u64 td, .int .i64 te, .int .i64 tf, .int .i64 tg, .int .i64 th] 33) := ⟨_, rfl⟩
  have hb3 : Below w1.heap.size w1 w3 := hw3 ▸ bal HB2.out _
  have hx3 : w3.heap[w2.heap.size]? = some (.cells (⟨ta, tb, tx, td, te, tf, tg, th⟩ : Cp).L.toArray 33 (0, 0)) := by rw [hw3]; exact heap_alloc_new w2 _
  have HB13 := hid hb3
  have HB3 := hid (HB1.out.trans (hb3.mono HB1.out.size))
  have HC3 : Hid (Calls Tryz.prog 62 #[.agg #[.int .i64 ta, .int .i64 tb, .int .i64 tx, .int .u64 td, .int .i64 te, .int .i64 tf, .int .i64 tg, .int .i64 th], .pointer (some ⟨mB, 0, none⟩)] w3 fun e w' => e = .returned (.tuple #[.agg #[.int .i64 ca, .int .i64 cb, .int .i64 cx, .int .u64 cd, .int .i64 ce, .int .i64 cf, .int .i64 cg, .int .i64 ch], .int .i64 k]) ∧ Below w3.heap.size w3 w') := hid (HCL.out w3 HB3.out)
  have HS3 := hid ((hb3.block _ HZ0.out).trans HS1.out)
  have HR3 := hid ((hb3.block _ HZ1.out).trans HR1.out)
  rw [← hw3]
  generalize w2.heap.size = xB at *
  obtain ⟨x0, x1, x2, x3, x4, x5, x6, x7⟩ := cap_cells hx3
  simp only [] at x0 x1 x2 x3 x4 x5 x6 x7
  clear k0 k1 r0 r1 hw3 hb3 hx3 HG HS1 HR1 HB2
  go_upto_region 5 with (go_at_call 62; (with_reducible refine HC3.out.mono ?_); rintro e w4 ⟨rfl, hb4⟩; have HB4 := hid hb4; clear hb4)
  obtain ⟨w5, hw5⟩ : ∃ y, y = w4.alloc (.cells #[.int .i64 ca, .int .i64 cb, .int .i64 cx, .int .u64 cd, .int .i64 ce, .int .i64 cf, .int .i64 cg, .int .i64 ch] 33) := ⟨_, rfl⟩
  have hb5 : Below w3.heap.size w3 w5 := hw5 ▸ bal HB4.out _
  have hx5 : w5.heap[w4.heap.size]? = some (.cells (⟨ca, cb, cx, cd, ce, cf, cg, ch⟩ : Cp).L.toArray 33 (0, 0)) := by rw [hw5]; exact heap_alloc_new w4 _
  have HB5 := hid (HB3.out.trans (hb5.mono HB3.out.size))
  have hs5 := (hb5.block _ (ags HS3.out).1).trans HS3.out
  have ht5 := (hb5.block _ (ags HR3.out).1).trans HR3.out
  have HC5 := hid (HCH.out w5 (HH.out.call HB5.out))
  rw [← hw5]
  generalize w4.heap.size = yB at *
  clear x0 x1 x2 x3 x4 x5 x6 x7
  obtain ⟨x0, x1, x2, x3, x4, x5, x6, x7⟩ := cap_cells hx5
  simp only [] at x0 x1 x2 x3 x4 x5 x6 x7
  obtain ⟨k0, k1⟩ := slot_cells hs5
  obtain ⟨r0, r1⟩ := slot_cells ht5
  clear hw5 hb5 hx5 hs5 ht5 HS3 HR3 HCH HCL HC3 H1
  by_cases hk : k = 0
  ·subst hk
   obtain rfl : N = RN := Eq.symm (by rw [HRN.out, if_neg (fun e => e rfl)])
   obtain rfl : L2 = RL := Eq.symm (by rw [HRL.out, if_pos ⟨HP.out, rfl⟩])
   obtain rfl : l3 = RT := Eq.symm (by rw [HRT.out, if_pos ⟨HP.out, rfl⟩])
   go_wp2_with (go_at_call 35; (with_reducible refine HC5.out.mono ?_); rintro e w6 ⟨rfl, h6, hk6⟩; have H6 := hid h6; have HK6 := hid hk6; clear h6 hk6)
   go_ret
   exact ⟨rfl, H6.out, fun k q => (HK6.out k q).trans (HB5.out.block k (HH.out.lt q))⟩
  ·have HK := hid hk
   have hRN := HRN.out
   have hRL := HRL.out
   have hRT := HRT.out
   rw [if_pos hk] at hRN
   rw [if_neg (fun e => HK.out e.2)] at hRL hRT
   have hk' : (k == 0) = false := beq_eq_false_iff_ne.2 hk
   subst hRN hRL hRT
   go_wp2
   go_ret
   exact ⟨rfl, (HH.out.call HB5.out).mono (Nat.le_succ n), HH.out.same HB5.out⟩
 ·rw [if_pos hon, if_neg (fun e => hon e.1), if_neg (fun e => hon e.1)]
  refine (hderived_no h o i p j 62 #[.pointer (some ⟨mB, 0, none⟩)] r HCL.out hon).mono ?_
  rintro e w' ⟨he, hB⟩
  exact ⟨he, (h.call hB).mono (Nat.le_succ n), h.same hB⟩
theorem hcopy (h : Hd W s hb rhb n L M l l2 S w) (hT0 : CX.TabG W) (o i p j : Int) (ho : InS o) (hi : InS i) (hp : InS p) (hj : InS j) (m : Int) (hx : (gt L o i).e ≤ 9223372036854775807) (hr : (cpy (gt L o i) m).1.e ≤ 9223372036854775807)  (hnn : n < 1000000) :
  Calls Tryz.prog 16 #[.pointer (some ⟨hb, 0, none⟩), slV o i, slV p j, .int .i64 m] w fun e w' => e = .returned (.int .i64 (derN L l o i p j (cpy (gt L o i) m))) ∧ Hd W s hb rhb (n + 1) (derL L o i p j (cpy (gt L o i) m)) M (derT L l o i p j (cpy (gt L o i) m)) l2 S w' ∧ SameK S w w' := by
 obtain ⟨hb0, hs0, ht0⟩ := duo_boxes w o i p j
 obtain ⟨w1, hw1⟩ : ∃ y, y = ((w.alloc (slO o i)).alloc (slO p j)).alloc (.cells #[.int .i64 m] 3) := ⟨_, rfl⟩
 have hb1 : Below w.heap.size w w1 := hw1 ▸ bal (bal (bal (Below.refl _ _) _) _) _
 have hsz : w1.heap.size = w.heap.size + 3 := by rw [hw1]; simp
 have hs1 : w1.heap[w.heap.size]? = some (.cells #[.int .i64 o, .int .i64 i] 30 (0, 0)) := by
  rw [hw1]
  rw [Below.heap_alloc _ _ _ (by simp; try omega)]
  exact hs0
 have ht1 : w1.heap[w.heap.size + 1]? = some (.cells #[.int .i64 p, .int .i64 j] 30 (0, 0)) := by
  rw [hw1]
  rw [Below.heap_alloc _ _ _ (by simp; try omega)]
  exact ht0
 have hm0 : w1.cell? ⟨w.heap.size + 2, 0, none⟩ = some (.int .i64 m) := by
  rw [hw1]
  have := heap_alloc_new ((w.alloc (slO o i)).alloc (slO p j)) (.cells #[.int .i64 m] 3)
  simp only [World.size_alloc] at this
  exact cell_cur (cur := [.int .i64 m]) this 0
 have H1 := hid (h.call hb1)
 have HB1 := hid hb1
 have HH := hid h
 have HD := hid (hcopyD H1.out hT0 o i p j ho hi hp hj m (w.heap.size + 2) hx hr hm0 (by omega) hnn)
 generalize derN L l o i p j (cpy (gt L o i) m) = N at *
 generalize derL L o i p j (cpy (gt L o i) m) = L2 at *
 generalize derT L l o i p j (cpy (gt L o i) m) = l3 at *
 obtain ⟨k0, k1⟩ := slot_cells hs1
 obtain ⟨r0, r1⟩ := slot_cells ht1
 have HW := hid hw1
 clear h hb0 hs0 ht0 hb1 hs1 ht1 hw1 hT0 hx hr hnn ho hi hp hj hsz hm0
 go_enter Tryz.func16, Tryz.ntmps16
 go_upto_region 1 with fail
 rw [show (((w.alloc (slO o i)).alloc (slO p j)).alloc (.cells #[.int .i64 m] 3)) = w1 from HW.out.symm]
 go_wp2_with (go_at_call 61; (with_reducible refine HD.out.mono ?_); rintro e w6 ⟨rfl, h6, hk6⟩; have H6 := hid h6; have HK6 := hid hk6; clear h6 hk6)
 go_ret
 exact ⟨rfl, H6.out, fun k q => (HK6.out k q).trans (HB1.out.block k (HH.out.lt q))⟩
end HpS
end
end Go.Proofs.YtchjfeafkmpmbaaGreatDoor
