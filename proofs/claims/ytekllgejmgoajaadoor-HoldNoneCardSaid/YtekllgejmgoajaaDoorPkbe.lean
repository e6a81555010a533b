import Derived.Test.YtekllgejmgoajaaDoorPkbd
namespace Go.Proofs.YtekllgejmgoajaaDoor
set_option linter.unusedVariables false
set_option linter.unusedSimpArgs false
set_option maxRecDepth 100000
set_option maxHeartbeats 8000000
open Lib (hid)
section
open Go.ChangeShapes Go.WideShapes Go.ChangeAt Go.RowKit Go.Shelf
namespace HpS
open TabS (Cp Sn zC mayC sizS getR getN FootP foot_ltP SameS AddRel addSR setN setM rowsS hasS dropSR dropSL heldA hdsC)
open TabP (Two Pr)
variable {W w w' : World} {s : Sh} {hb rhb n n' : Nat} {L M L' M' : List Sn} {l l2 l' l2' : List Nod} {S : Nat → Prop}
def childF (q : Int) (sm : Bool) (r : Int) : Int := if q = 1 ∨ q = 3 then q else if sm = false then 5 else if q ≠ 0 then q else r
def childN (L : List Sn) (l : List Nod) (o i p j : Int) (c : Cp) : Int := childF (pairN L o i p j) (someB c) (childA l o i p j).2
def childOn (L : List Sn) (o i p j : Int) (c : Cp) : Prop := pairN L o i p j = 0 ∧ someB c = true
abbrev triW (w : World) (o i p j : Int) (c : Cp) : World := ((w.alloc (slO o i)).alloc (slO p j)).alloc (.cells c.L.toArray 26)
theorem tri_boxes (w : World) (o i p j : Int) (c : Cp) : Below w.heap.size w (triW w o i p j c) ∧ (triW w o i p j c).heap[w.heap.size]? = some (.cells #[.int .i64 o, .int .i64 i] 23 (0, 0)) ∧ (triW w o i p j c).heap[w.heap.size + 1]? = some (.cells #[.int .i64 p, .int .i64 j] 23 (0, 0)) ∧ (triW w o i p j c).heap[w.heap.size + 2]? = some (.cells c.L.toArray 26 (0, 0)) := by
 have h1 := heap_alloc_new (w.alloc (slO o i)) (slO p j)
 have h2 := heap_alloc_new ((w.alloc (slO o i)).alloc (slO p j)) (.cells c.L.toArray 26)
 rw [World.size_alloc] at h1 h2
 rw [World.size_alloc] at h2
 exact ⟨bal (bal (bal (Below.refl _ _) _) _) _, (Below.heap_alloc _ _ _ (by simp; omega)).trans ((Below.heap_alloc _ _ _ (by simp)).trans (heap_alloc_new w _)), (Below.heap_alloc _ _ _ (by simp)).trans h1, h2⟩
theorem hchild_no (h : Hd W s hb rhb n L M l l2 S w) (hT0 : CX.TabG W) (o i p j : Int) (c : Cp) (he : c.e ≤ 9223372036854775807) (hno : ¬ childOn L o i p j c) :
  Calls Tryd.prog 7 #[.pointer (some ⟨hb, 0, none⟩), slV o i, slV p j, c.V] w fun e w' => e = .returned (.int .i64 (childN L l o i p j c)) ∧ Below w.heap.size w w' := by
 obtain ⟨hb1, hs1, ht1, hc1⟩ := tri_boxes w o i p j c
 obtain ⟨w1, hw1⟩ : ∃ y, y = triW w o i p j c := ⟨_, rfl⟩
 rw [← hw1] at hb1 hs1 ht1 hc1
 have H1 := hid (h.call hb1)
 have HB1 := hid hb1
 have HC1 := hid hc1
 have HS1 := hid hs1
 have HR1 := hid ht1
 have HG := hid (hpair H1.out o i p j)
 have HT1 := hid (fun (v : World) (hv : Below w1.heap.size w1 v) => hsome v (hT0.call (H1.out.call hv).below) c he)
 have hsb : someB c = (mayC c && decide (c.a ≠ 0)) := rfl
 rw [← hsb] at HT1
 obtain ⟨N, hN⟩ : ∃ y, y = childN L l o i p j c := ⟨_, rfl⟩
 rw [← hN]
 unfold childN childF at hN
 unfold childOn at hno
 generalize pairC L o i p j = t at *
 generalize pairN L o i p j = cn at *
 generalize someB c = sm at *
 obtain ⟨ta, tb, tx, td, te, tf, tg, th⟩ := t
 obtain ⟨ca, cb, cx, cd, ce, cf, cg, ch⟩ := c
 have HN := hid hN
 clear hN
 obtain ⟨k0, k1⟩ := slot_cells hs1
 obtain ⟨r0, r1⟩ := slot_cells ht1
 have HZ1 := hid (ags hc1).1
 have HW := hid hw1
 clear h hb1 hs1 ht1 hc1 hw1 hsb hT0 he
 go_enter Tryd.func7, Tryd.ntmps7
 go_upto_region 1 with fail
 rw [show (((w.alloc (slO o i)).alloc (slO p j)).alloc (.cells #[.int .i64 ca, .int .i64 cb, .int .i64 cx, .int .u64 cd, .int .i64 ce, .int .i64 cf, .int .i64 cg, .int .i64 ch] 26)) = w1 from HW.out.symm]
 go_upto_region 2 with (go_at_call 27; (with_reducible refine HG.out.mono ?_); rintro e w2 ⟨rfl, hb2⟩; have HB2 := hid hb2; clear hb2)
 obtain ⟨w3, hw3⟩ : ∃ y, y = w2.alloc (.cells #[.int .i64 ta, .int .i64 tb, .int .i64 tx, .int .u64 td, .int .i64 te, .int .i64 tf, .int .i64 tg, .int .i64 th] 26) := ⟨_, rfl⟩
 have hb3 : Below w1.heap.size w1 w3 := hw3 ▸ bal HB2.out _
 have HB3w := hid hb3
 have HZ0 : Hid (w.heap.size < w1.heap.size ∧ w.heap.size + 1 < w1.heap.size) := hid (by have := HZ1.out; omega)
 have HC3 := hid ((hb3.block _ HZ1.out).trans HC1.out)
 have HS3 := hid ((hb3.block _ HZ0.out.1).trans HS1.out)
 have HR3 := hid ((hb3.block _ HZ0.out.2).trans HR1.out)
 have HB3 := hid (HB1.out.trans (hb3.mono HB1.out.size))
 rw [← hw3]
 generalize w2.heap.size = xB at *
 clear hw3 hb3 k0 k1 r0 r1 HG H1 HB1 HC1 HB2 HS1 HR1
 obtain ⟨x0, x1, x2, x3, x4, x5, x6, x7⟩ := cap_cells HC3.out
 simp only [] at x0 x1 x2 x3 x4 x5 x6 x7
 have HSM := hid (HT1.out w3 HB3w.out)
 by_cases q1 : cn = 1
 ·subst q1
  obtain rfl : N = 1 := by rw [HN.out]; rfl
  go_wp2
  go_ret
  exact ⟨rfl, HB3.out⟩
 ·by_cases q3 : cn = 3
  ·subst q3
   obtain rfl : N = 3 := by rw [HN.out]; rfl
   go_wp2
   go_ret
   exact ⟨rfl, HB3.out⟩
  ·have q4 : ¬ (cn = 1 ∨ cn = 3) := fun e => e.elim q1 q3
   have q5 : (cn == 1) = false := beq_eq_false_iff_ne.2 q1
   have q6 : (cn == 3) = false := beq_eq_false_iff_ne.2 q3
   cases sm with
   | false =>
    obtain rfl : N = 5 := by rw [HN.out, if_neg q4]; rfl
    go_wp2_with (go_at_call 25; (with_reducible refine HSM.out.mono ?_); rintro e w4 ⟨rfl, hb4⟩; have HB4 := hid (HB3.out.trans (hb4.mono HB3.out.size)); clear hb4)
    go_ret
    exact ⟨rfl, HB4.out⟩
   | true =>
    have q0 : cn ≠ 0 := fun e => hno ⟨e, rfl⟩
    obtain rfl : cn = N := by rw [HN.out, if_neg q4, if_neg (by decide), if_pos q0]
    go_wp2_with (go_at_call 25; (with_reducible refine HSM.out.mono ?_); rintro e w4 ⟨rfl, hb4⟩; have HB4 := hid (HB3.out.trans (hb4.mono HB3.out.size)); clear hb4)
    go_ret
    exact ⟨rfl, HB4.out⟩
theorem hchild_yes (h : Hd W s hb rhb n L M l l2 S w) (hT0 : CX.TabG W) (o i p j : Int) (ho : InS o) (hi : InS i) (hp : InS p) (hj : InS j) (c : Cp) (he : c.e ≤ 9223372036854775807) (hnn : n < 1000000) (hon : childOn L o i p j c) :
  Calls Tryd.prog 7 #[.pointer (some ⟨hb, 0, none⟩), slV o i, slV p j, c.V] w fun e w' => e = .returned (.int .i64 (childA l o i p j).2) ∧ Hd W s hb rhb (n + 1) (setM L p j c) M (childA l o i p j).1 l2 S w' ∧ SameK S w w' := by
 obtain ⟨hb1, hs1, ht1, hc1⟩ := tri_boxes w o i p j c
 obtain ⟨w1, hw1⟩ : ∃ y, y = triW w o i p j c := ⟨_, rfl⟩
 rw [← hw1] at hb1 hs1 ht1 hc1
 have H1 := hid (h.call hb1)
 have HB1 := hid hb1
 have HC1 := hid hc1
 have HS1 := hid hs1
 have HR1 := hid ht1
 have HG := hid (hpair H1.out o i p j)
 have HT1 := hid (fun (v : World) (hv : Below w1.heap.size w1 v) => hsome v (hT0.call (H1.out.call hv).below) c he)
 have hsb : someB c = (mayC c && decide (c.a ≠ 0)) := rfl
 rw [← hsb] at HT1
 have HH := hid h
 unfold childOn at hon
 obtain ⟨L2, hL2⟩ : ∃ y, y = setM L p j c := ⟨_, rfl⟩
 obtain ⟨RA, hRA⟩ : ∃ y, y = childA l o i p j := ⟨_, rfl⟩
 rw [← hL2, ← hRA]
 have HST : Hid (∀ v T, Hd W s hb rhb n L M l l2 T v → Calls Tryd.prog 23 #[.pointer (some ⟨s.sb, 0, none⟩), slV p j, c.V] v fun e w' => e = .returned (.int .i64 (setN L p j c)) ∧ Hd W s hb rhb n L2 M l l2 T w' ∧ SameK T v w') := hid (fun v T hv => by rw [hL2]; exact hv.act (fun K hK => hK.set hT0 p j c he))
 have HRT : Hid (∀ v T, Hd W s hb rhb n L2 M l l2 T v → Calls Tryd.prog 28 #[.pointer (some ⟨s.tb, 0, none⟩), slV o i, slV p j] v fun e w' => e = .returned (.int .i64 RA.2) ∧ Hd W s hb rhb (n + 1) L2 M RA.1 l2 T w' ∧ SameK T v w') := hid (fun v T hv => by rw [hRA]; exact hv.act (fun K hK => hK.child o i p j ho hi hp hj hnn))
 clear hL2 hRA
 generalize setN L p j c = sn at *
 generalize pairC L o i p j = t at *
 generalize pairN L o i p j = cn at *
 generalize someB c = sm at *
 obtain ⟨ta, tb, tx, td, te, tf, tg, th⟩ := t
 obtain ⟨ca, cb, cx, cd, ce, cf, cg, ch⟩ := c
 obtain ⟨rfl, rfl⟩ := hon
 obtain ⟨k0, k1⟩ := slot_cells hs1
 obtain ⟨r0, r1⟩ := slot_cells ht1
 have HZ1 := hid (ags hc1).1
 have HW := hid hw1
 clear h hb1 hs1 ht1 hc1 hw1 hsb hT0 he ho hi hp hj hnn
 go_enter Tryd.func7, Tryd.ntmps7
 go_upto_region 1 with fail
 rw [show (((w.alloc (slO o i)).alloc (slO p j)).alloc (.cells #[.int .i64 ca, .int .i64 cb, .int .i64 cx, .int .u64 cd, .int .i64 ce, .int .i64 cf, .int .i64 cg, .int .i64 ch] 26)) = w1 from HW.out.symm]
 go_upto_region 2 with (go_at_call 27; (with_reducible refine HG.out.mono ?_); rintro e w2 ⟨rfl, hb2⟩; have HB2 := hid hb2; clear hb2)
 obtain ⟨w3, hw3⟩ : ∃ y, y = w2.alloc (.cells #[.int .i64 ta, .int .i64 tb, .int .i64 tx, .int .u64 td, .int .i64 te, .int .i64 tf, .int .i64 tg, .int .i64 th] 26) := ⟨_, rfl⟩
 have hb3 : Below w1.heap.size w1 w3 := hw3 ▸ bal HB2.out _
 have HB3w := hid hb3
 have HZ0 : Hid (w.heap.size < w1.heap.size ∧ w.heap.size + 1 < w1.heap.size) := hid (by have := HZ1.out; omega)
 have HC3 := hid ((hb3.block _ HZ1.out).trans HC1.out)
 have HS3 := hid ((hb3.block _ HZ0.out.1).trans HS1.out)
 have HR3 := hid ((hb3.block _ HZ0.out.2).trans HR1.out)
 have HB3 := hid (HB1.out.trans (hb3.mono HB1.out.size))
 rw [← hw3]
 generalize w2.heap.size = xB at *
 clear hw3 hb3 k0 k1 r0 r1 HG H1 HB1 HC1 HB2 HS1 HR1
 obtain ⟨x0, x1, x2, x3, x4, x5, x6, x7⟩ := cap_cells HC3.out
 simp only [] at x0 x1 x2 x3 x4 x5 x6 x7
 have HSM := hid (HT1.out w3 HB3w.out)
 go_upto_region 8 with (go_at_call 25; (with_reducible refine HSM.out.mono ?_); rintro e w4 ⟨rfl, hb4⟩; have HB4 := hid hb4; clear hb4)
 have HC4 := hid ((HB4.out.block _ (ags HC3.out).1).trans HC3.out)
 have HS4 := hid ((HB4.out.block _ (ags HS3.out).1).trans HS3.out)
 have HR4 := hid ((HB4.out.block _ (ags HR3.out).1).trans HR3.out)
 have HW4 := hid (HB3.out.trans (HB4.out.mono HB3.out.size))
 have HE4 := hid (HH.out.fresh HW4.out)
 have HE4d := hid (HE4.out.call (show Below w4.heap.size w4 w4.drew from (Below.refl _ _).drew))
 have HBX4 := hid (Bx2.of HE4.out HR4.out HC4.out).a
 have HNS : Hid (New w w4 w.heap.size ∧ New w w4 (w.heap.size + 1) ∧ New w w4 (w.heap.size + 2)) := hid ⟨⟨Nat.le_refl _, (ags HS4.out).1⟩, ⟨by omega, (ags HR4.out).1⟩, ⟨by omega, (ags HC4.out).1⟩⟩
 have HSC := hid (HST.out _ _ HE4d.out)
 have HBd : Hid (Bx2A w4.drew hb s p j ⟨ca, cb, cx, cd, ce, cf, cg, ch⟩ (w.heap.size + 1) (w.heap.size + 2)) := hid HBX4.out
 clear x0 x1 x2 x3 x4 x5 x6 x7 HT1 HSM HB3w HB3 HC3 HS3 HR3 HB4 HST
 go_region_held3 (fun w' => w'.cell? ⟨hb, 0, none⟩ = some (.pointer (some ⟨s.sb, 0, none⟩)) ∧ w'.cell? ⟨w.heap.size + 1, 0, none⟩ = some (.int .i64 p) ∧ w'.cell? ⟨w.heap.size + 1, 1, none⟩ = some (.int .i64 j) ∧ w'.cell? ⟨w.heap.size + 2, 0, none⟩ = some (.int .i64 ca) ∧ w'.cell? ⟨w.heap.size + 2, 1, none⟩ = some (.int .i64 cb) ∧ w'.cell? ⟨w.heap.size + 2, 2, none⟩ = some (.int .i64 cx) ∧ w'.cell? ⟨w.heap.size + 2, 3, none⟩ = some (.int .u64 cd) ∧ w'.cell? ⟨w.heap.size + 2, 4, none⟩ = some (.int .i64 ce) ∧ w'.cell? ⟨w.heap.size + 2, 5, none⟩ = some (.int .i64 cf) ∧ w'.cell? ⟨w.heap.size + 2, 6, none⟩ = some (.int .i64 cg) ∧ w'.cell? ⟨w.heap.size + 2, 7, none⟩ = some (.int .i64 ch))
  (first | (with_reducible exact HBX4.out) | (with_reducible exact HBd.out) | (with_reducible exact HB5.out))
  (first | (go_at_call 23; (with_reducible refine HSC.out.mono ?_); rintro e w5 ⟨rfl, h5, hk5⟩; have H5 := hid h5; have HK5 := hid hk5; have hs5 := (hk5 _ (.inr HNS.out.1)).trans HS4.out; have hr5 := (hk5 _ (.inr HNS.out.2.1)).trans HR4.out; have hc5 := (hk5 _ (.inr HNS.out.2.2)).trans HC4.out; have HS5 := hid hs5; have HR5 := hid hr5; have HB5 := hid (Bx2.of h5 hr5 hc5).a; clear h5 hk5 hs5 hr5 hc5))
 have HBX5 : Hid (w5.cell? ⟨hb, 1, none⟩ = some (.pointer (some ⟨s.tb, 0, none⟩)) ∧ w5.cell? ⟨w.heap.size, 0, none⟩ = some (.int .i64 o) ∧ w5.cell? ⟨w.heap.size, 1, none⟩ = some (.int .i64 i) ∧ w5.cell? ⟨w.heap.size + 1, 0, none⟩ = some (.int .i64 p) ∧ w5.cell? ⟨w.heap.size + 1, 1, none⟩ = some (.int .i64 j)) := hid ⟨H5.out.c.2.1, (slot_cells HS5.out).1, (slot_cells HS5.out).2, (slot_cells HR5.out).1, (slot_cells HR5.out).2⟩
 have HBX5d : Hid (w5.drew.cell? ⟨hb, 1, none⟩ = some (.pointer (some ⟨s.tb, 0, none⟩)) ∧ w5.drew.cell? ⟨w.heap.size, 0, none⟩ = some (.int .i64 o) ∧ w5.drew.cell? ⟨w.heap.size, 1, none⟩ = some (.int .i64 i) ∧ w5.drew.cell? ⟨w.heap.size + 1, 0, none⟩ = some (.int .i64 p) ∧ w5.drew.cell? ⟨w.heap.size + 1, 1, none⟩ = some (.int .i64 j)) := hid HBX5.out
 have H5d := hid (H5.out.call (show Below w5.heap.size w5 w5.drew from (Below.refl _ _).drew))
 have HRC := hid (HRT.out _ _ H5d.out)
 have HS0 : Hid (∀ k, S k → w5.heap[k]? = w.heap[k]?) := hid (fun k q => (HK5.out k (.inl q)).trans (HW4.out.block k (HH.out.lt q)))
 clear HB5 HSC HRT HBX4 HBd HC4 HS4 HR4 HE4 HE4d
 go_upto_region 9 with fail
 go_region_held3 (fun w' => w'.cell? ⟨hb, 1, none⟩ = some (.pointer (some ⟨s.tb, 0, none⟩)) ∧ w'.cell? ⟨w.heap.size, 0, none⟩ = some (.int .i64 o) ∧ w'.cell? ⟨w.heap.size, 1, none⟩ = some (.int .i64 i) ∧ w'.cell? ⟨w.heap.size + 1, 0, none⟩ = some (.int .i64 p) ∧ w'.cell? ⟨w.heap.size + 1, 1, none⟩ = some (.int .i64 j))
  (first | (with_reducible exact HBX5.out) | (with_reducible exact HBX5d.out) | (with_reducible exact HB6.out))
  (first | (go_at_call 28; (with_reducible refine HRC.out.mono ?_); rintro e w6 ⟨rfl, h6, hk6⟩; have H6 := hid h6; have HK6 := hid hk6; have hs6 := (hk6 _ (.inr HNS.out.1)).trans HS5.out; have hr6 := (hk6 _ (.inr HNS.out.2.1)).trans HR5.out; have HB6 : Hid (w6.cell? ⟨hb, 1, none⟩ = some (.pointer (some ⟨s.tb, 0, none⟩)) ∧ w6.cell? ⟨w.heap.size, 0, none⟩ = some (.int .i64 o) ∧ w6.cell? ⟨w.heap.size, 1, none⟩ = some (.int .i64 i) ∧ w6.cell? ⟨w.heap.size + 1, 0, none⟩ = some (.int .i64 p) ∧ w6.cell? ⟨w.heap.size + 1, 1, none⟩ = some (.int .i64 j)) := hid ⟨h6.c.2.1, (slot_cells hs6).1, (slot_cells hs6).2, (slot_cells hr6).1, (slot_cells hr6).2⟩; clear h6 hk6 hs6 hr6))
 all_goals
  go_wp2
  go_ret
  exact ⟨rfl, H6.out.weak (fun k q => .inl q), fun k q => (HK6.out k (.inl q)).trans (HS0.out k q)⟩
def sameC (x y : Cp) : Bool := CX.alikeB (mayC x) (mayC y) x.a y.a x.b y.b
theorem halike (w : World) (hT : CX.TabG w) (x y : Cp) (hx : x.e ≤ 9223372036854775807) (hy : y.e ≤ 9223372036854775807) :
  Calls Tryd.prog 29 #[x.V, y.V] w fun e w' => e = .returned (.bool (sameC x y)) ∧ Below w.heap.size w w' := CX.alike_any x.a x.b x.c x.d x.e x.f x.g x.h y.a y.b y.c y.d y.e y.f y.g y.h w hT hx hy
def hsetN (L : List Sn) (o i : Int) (c : Cp) : Int := if fullN L o i ≠ 0 then fullN L o i else if sameC c (gt L o i) = false then 5 else setN L o i c
def hsetOn (L : List Sn) (o i : Int) (c : Cp) : Prop := fullN L o i = 0 ∧ sameC c (gt L o i) = true
end HpS
end
end Go.Proofs.YtekllgejmgoajaaDoor
