import Derived.Test.YtchjfeafkmpmbaaGreatDoorPkaw
namespace Go.Proofs.YtchjfeafkmpmbaaGreatDoor
set_option linter.unusedVariables false
set_option linter.unusedSimpArgs false
set_option maxRecDepth 100000
set_option maxHeartbeats 8000000
open Lib (hid)
section
open Go.ChangeShapes Go.WideShapes Go.ChangeAt Go.RowKit Go.Shelf
namespace HdS
open TabS (Cp Sn zC mayC sizS getR getN Two Pr FootP foot_ltP foot_ltR SameS AddRel addSR setN setM rowsS hasS dropSR dropSL heldA hdsC)
variable {W w w' : World} {s : Sh} {hb rhb n n' : Nat} {L M L' M' : List Sn} {l l2 l' l2' : List Nod} {S : Nat → Prop}
def sameC (x y : Cp) : Bool := CX.alikeB (mayC x) (mayC y) x.a y.a x.b y.b
theorem halike (w : World) (hT : CX.TabG w) (x y : Cp) (hx : x.e ≤ 9223372036854775807) (hy : y.e ≤ 9223372036854775807) :
  Calls Tryz.prog 22 #[x.V, y.V] w fun e w' => e = .returned (.bool (sameC x y)) ∧ Below w.heap.size w w' := CX.alike_any x.a x.b x.c x.d x.e x.f x.g x.h y.a y.b y.c y.d y.e y.f y.g y.h w hT hx hy
theorem ralike (w : World) (x y : Cp) :
  Calls Tryz.prog 86 #[x.V, y.V] w fun e w' => e = .returned (.bool (sameC x y)) ∧ Below w.heap.size w w' := CX.alike13_any x.a x.b x.c x.d x.e x.f x.g x.h y.a y.b y.c y.d y.e y.f y.g y.h w
def hsetN (L : List Sn) (o i : Int) (c : Cp) : Int := if fullN L o i ≠ 0 then fullN L o i else if sameC c (gt L o i) = false then 5 else setN L o i c
def hsetOn (L : List Sn) (o i : Int) (c : Cp) : Prop := fullN L o i = 0 ∧ sameC c (gt L o i) = true
theorem hset_no (h : Hd W s hb rhb n L M l l2 S w) (hT0 : CX.TabG W) (o i : Int) (c : Cp) (he : c.e ≤ 9223372036854775807) (hg : (gt L o i).e ≤ 9223372036854775807) (hno : ¬ hsetOn L o i c) :
  Calls Tryz.prog 37 #[.pointer (some ⟨hb, 0, none⟩), slV o i, c.V] w fun e w' => e = .returned (.int .i64 (hsetN L o i c)) ∧ Below w.heap.size w w' := by
 obtain ⟨hb1, hs1, hc1⟩ := slot_cap_boxes w o i c
 obtain ⟨w1, hw1⟩ : ∃ y, y = (w.alloc (slO o i)).alloc (.cells c.L.toArray 33) := ⟨_, rfl⟩
 rw [← hw1] at hb1 hs1 hc1
 have H1 := hid (h.call hb1)
 have HB1 := hid hb1
 have HC1 := hid hc1
 have HS1 := hid hs1
 have HG := hid (hfull H1.out o i)
 have HAL := hid (fun (v : World) (hv : Below w1.heap.size w1 v) => halike v (hT0.call (H1.out.call hv).below) c (gt L o i) he hg)
 obtain ⟨N, hN⟩ : ∃ y, y = hsetN L o i c := ⟨_, rfl⟩
 rw [← hN]
 unfold hsetN at hN
 unfold hsetOn at hno
 generalize setN L o i c = sn at *
 generalize sameC c (gt L o i) = sm at *
 generalize gt L o i = t at *
 generalize fullN L o i = cn at *
 obtain ⟨ta, tb, tx, td, te, tf, tg, th⟩ := t
 obtain ⟨ca, cb, cx, cd, ce, cf, cg, ch⟩ := c
 have HN := hid hN
 clear hN
 obtain ⟨k0, k1⟩ := slot_cells hs1
 have HZ1 := hid (ags hc1).1
 have HW := hid hw1
 clear h hb1 hs1 hc1 hw1 hT0 he hg
 go_enter Tryz.func37, Tryz.ntmps37
 go_upto_region 1 with fail
 rw [show ((w.alloc (slO o i)).alloc (.cells #[.int .i64 ca, .int .i64 cb, .int .i64 cx, .int .u64 cd, .int .i64 ce, .int .i64 cf, .int .i64 cg, .int .i64 ch] 33)) = w1 from HW.out.symm]
 go_upto_region 2 with (go_at_call 69; (with_reducible refine HG.out.mono ?_); rintro e w2 ⟨rfl, hb2⟩; have HB2 := hid hb2; clear hb2)
 obtain ⟨w3, hw3⟩ : ∃ y, y = w2.alloc (.cells #[.int .i64 ta, .int .i64 tb, .int .i64 tx, .int .u64 td, .int .i64 te, .int .i64 tf, .int .i64 tg, .int .i64 th] 33) := ⟨_, rfl⟩
 have hb3 : Below w1.heap.size w1 w3 := hw3 ▸ bal HB2.out _
 have hx3 : w3.heap[w2.heap.size]? = some (.cells (⟨ta, tb, tx, td, te, tf, tg, th⟩ : Cp).L.toArray 33 (0, 0)) := by rw [hw3]; exact heap_alloc_new w2 _
 have HB3w := hid hb3
 have HZ0 : Hid (w.heap.size < w1.heap.size) := hid (by have := HZ1.out; omega)
 have HC3 := hid ((hb3.block _ HZ1.out).trans HC1.out)
 have HS3 := hid ((hb3.block _ HZ0.out).trans HS1.out)
 have HB3 := hid (HB1.out.trans (hb3.mono HB1.out.size))
 rw [← hw3]
 generalize w2.heap.size = xB at *
 obtain ⟨x0, x1, x2, x3, x4, x5, x6, x7⟩ := cap_cells HC3.out
 simp only [] at x0 x1 x2 x3 x4 x5 x6 x7
 obtain ⟨y0, y1, y2, y3, y4, y5, y6, y7⟩ := cap_cells hx3
 simp only [] at y0 y1 y2 y3 y4 y5 y6 y7
 clear hw3 hb3 hx3 k0 k1 HG H1 HB1 HC1 HB2 HS1
 have HSM := hid (HAL.out w3 HB3w.out)
 by_cases q0 : cn = 0
 ·subst q0
  obtain rfl : sm = false := by
   cases sm with
   | false => rfl
   | true => exact (hno ⟨rfl, rfl⟩).elim
  obtain rfl : N = 5 := by rw [HN.out]; rfl
  go_wp2_with (go_at_call 22; (with_reducible refine HSM.out.mono ?_); rintro e w4 ⟨rfl, hb4⟩; have HB4 := hid (HB3.out.trans (hb4.mono HB3.out.size)); clear hb4)
  go_ret
  exact ⟨rfl, HB4.out⟩
 ·obtain rfl : cn = N := by rw [HN.out, if_pos q0]
  go_wp2
  go_ret
  exact ⟨rfl, HB3.out⟩
theorem hset_yes (h : Hd W s hb rhb n L M l l2 S w) (hT0 : CX.TabG W) (o i : Int) (c : Cp) (he : c.e ≤ 9223372036854775807) (hg : (gt L o i).e ≤ 9223372036854775807) (hon : hsetOn L o i c) :
  Calls Tryz.prog 37 #[.pointer (some ⟨hb, 0, none⟩), slV o i, c.V] w fun e w' => e = .returned (.int .i64 (setN L o i c)) ∧ Hd W s hb rhb n (setM L o i c) M l l2 S w' ∧ SameK S w w' := by
 obtain ⟨hb1, hs1, hc1⟩ := slot_cap_boxes w o i c
 obtain ⟨w1, hw1⟩ : ∃ y, y = (w.alloc (slO o i)).alloc (.cells c.L.toArray 33) := ⟨_, rfl⟩
 rw [← hw1] at hb1 hs1 hc1
 have H1 := hid (h.call hb1)
 have HB1 := hid hb1
 have HC1 := hid hc1
 have HS1 := hid hs1
 have HG := hid (hfull H1.out o i)
 have HAL := hid (fun (v : World) (hv : Below w1.heap.size w1 v) => halike v (hT0.call (H1.out.call hv).below) c (gt L o i) he hg)
 have HH := hid h
 unfold hsetOn at hon
 obtain ⟨L2, hL2⟩ : ∃ y, y = setM L o i c := ⟨_, rfl⟩
 rw [← hL2]
 have HST : Hid (∀ v T, Hd W s hb rhb n L M l l2 T v → Calls Tryz.prog 71 #[.pointer (some ⟨s.sb, 0, none⟩), slV o i, c.V] v fun e w' => e = .returned (.int .i64 (setN L o i c)) ∧ Hd W s hb rhb n L2 M l l2 T w' ∧ SameK T v w') := hid (fun v T hv => by rw [hL2]; exact hv.act (fun K hK => hK.set hT0 o i c he))
 clear hL2
 generalize setN L o i c = sn at *
 generalize sameC c (gt L o i) = sm at *
 generalize gt L o i = t at *
 generalize fullN L o i = cn at *
 obtain ⟨ta, tb, tx, td, te, tf, tg, th⟩ := t
 obtain ⟨ca, cb, cx, cd, ce, cf, cg, ch⟩ := c
 obtain ⟨rfl, rfl⟩ := hon
 obtain ⟨k0, k1⟩ := slot_cells hs1
 have HZ1 := hid (ags hc1).1
 have HW := hid hw1
 clear h hb1 hs1 hc1 hw1 hT0 he hg
 go_enter Tryz.func37, Tryz.ntmps37
 go_upto_region 1 with fail
 rw [show ((w.alloc (slO o i)).alloc (.cells #[.int .i64 ca, .int .i64 cb, .int .i64 cx, .int .u64 cd, .int .i64 ce, .int .i64 cf, .int .i64 cg, .int .i64 ch] 33)) = w1 from HW.out.symm]
 go_upto_region 2 with (go_at_call 69; (with_reducible refine HG.out.mono ?_); rintro e w2 ⟨rfl, hb2⟩; have HB2 := hid hb2; clear hb2)
 obtain ⟨w3, hw3⟩ : ∃ y, y = w2.alloc (.cells #[.int .i64 ta, .int .i64 tb, .int .i64 tx, .int .u64 td, .int .i64 te, .int .i64 tf, .int .i64 tg, .int .i64 th] 33) := ⟨_, rfl⟩
 have hb3 : Below w1.heap.size w1 w3 := hw3 ▸ bal HB2.out _
 have hx3 : w3.heap[w2.heap.size]? = some (.cells (⟨ta, tb, tx, td, te, tf, tg, th⟩ : Cp).L.toArray 33 (0, 0)) := by rw [hw3]; exact heap_alloc_new w2 _
 have HB3w := hid hb3
 have HZ0 : Hid (w.heap.size < w1.heap.size) := hid (by have := HZ1.out; omega)
 have HC3 := hid ((hb3.block _ HZ1.out).trans HC1.out)
 have HS3 := hid ((hb3.block _ HZ0.out).trans HS1.out)
 have HB3 := hid (HB1.out.trans (hb3.mono HB1.out.size))
 rw [← hw3]
 generalize w2.heap.size = xB at *
 obtain ⟨x0, x1, x2, x3, x4, x5, x6, x7⟩ := cap_cells HC3.out
 simp only [] at x0 x1 x2 x3 x4 x5 x6 x7
 obtain ⟨y0, y1, y2, y3, y4, y5, y6, y7⟩ := cap_cells hx3
 simp only [] at y0 y1 y2 y3 y4 y5 y6 y7
 clear hw3 hb3 hx3 k0 k1 HG H1 HB1 HC1 HB2 HS1
 have HSM := hid (HAL.out w3 HB3w.out)
 go_upto_region 6 with (go_at_call 22; (with_reducible refine HSM.out.mono ?_); rintro e w4 ⟨rfl, hb4⟩; have HB4 := hid hb4; clear hb4)
 have HC4 := hid ((HB4.out.block _ (ags HC3.out).1).trans HC3.out)
 have HS4 := hid ((HB4.out.block _ (ags HS3.out).1).trans HS3.out)
 have HW4 := hid (HB3.out.trans (HB4.out.mono HB3.out.size))
 have HE4 := hid (HH.out.fresh HW4.out)
 have HE4d := hid (HE4.out.call (show Below w4.heap.size w4 w4.drew from (Below.refl _ _).drew))
 have HBX4 := hid (Bx2.of HE4.out HS4.out HC4.out).a
 have HNS : Hid (New w w4 w.heap.size ∧ New w w4 (w.heap.size + 1)) := hid ⟨⟨Nat.le_refl _, (ags HS4.out).1⟩, ⟨by omega, (ags HC4.out).1⟩⟩
 have HSC := hid (HST.out _ _ HE4d.out)
 have HBd : Hid (Bx2A w4.drew hb s o i ⟨ca, cb, cx, cd, ce, cf, cg, ch⟩ w.heap.size (w.heap.size + 1)) := hid HBX4.out
 clear x0 x1 x2 x3 x4 x5 x6 x7 y0 y1 y2 y3 y4 y5 y6 y7 HSM HB3w HB3 HC3 HS3 HB4 HST HAL
 go_region_held3 (fun w' => w'.cell? ⟨hb, 0, none⟩ = some (.pointer (some ⟨s.sb, 0, none⟩)) ∧ w'.cell? ⟨w.heap.size, 0, none⟩ = some (.int .i64 o) ∧ w'.cell? ⟨w.heap.size, 1, none⟩ = some (.int .i64 i) ∧ w'.cell? ⟨w.heap.size + 1, 0, none⟩ = some (.int .i64 ca) ∧ w'.cell? ⟨w.heap.size + 1, 1, none⟩ = some (.int .i64 cb) ∧ w'.cell? ⟨w.heap.size + 1, 2, none⟩ = some (.int .i64 cx) ∧ w'.cell? ⟨w.heap.size + 1, 3, none⟩ = some (.int .u64 cd) ∧ w'.cell? ⟨w.heap.size + 1, 4, none⟩ = some (.int .i64 ce) ∧ w'.cell? ⟨w.heap.size + 1, 5, none⟩ = some (.int .i64 cf) ∧ w'.cell? ⟨w.heap.size + 1, 6, none⟩ = some (.int .i64 cg) ∧ w'.cell? ⟨w.heap.size + 1, 7, none⟩ = some (.int .i64 ch))
  (first | (with_reducible exact HBX4.out) | (with_reducible exact HBd.out) | (with_reducible exact HB5.out))
  (first | (go_at_call 71; (with_reducible refine HSC.out.mono ?_); rintro e w5 ⟨rfl, h5, hk5⟩; have H5 := hid h5; have HK5 := hid hk5; have hs5 := (hk5 _ (.inr HNS.out.1)).trans HS4.out; have hc5 := (hk5 _ (.inr HNS.out.2)).trans HC4.out; have HB5 := hid (Bx2.of h5 hs5 hc5).a; clear h5 hk5 hs5 hc5))
 all_goals
  go_wp2
  go_ret
  exact ⟨rfl, H5.out.weak (fun k q => .inl q), fun k q => (HK5.out k (.inl q)).trans (HW4.out.block k (HH.out.lt q))⟩
theorem duo_boxes (w : World) (o i p j : Int) : Below w.heap.size w ((w.alloc (slO o i)).alloc (slO p j)) ∧ ((w.alloc (slO o i)).alloc (slO p j)).heap[w.heap.size]? = some (.cells #[.int .i64 o, .int .i64 i] 30 (0, 0)) ∧ ((w.alloc (slO o i)).alloc (slO p j)).heap[w.heap.size + 1]? = some (.cells #[.int .i64 p, .int .i64 j] 30 (0, 0)) := by
 have h1 := heap_alloc_new (w.alloc (slO o i)) (slO p j)
 rw [World.size_alloc] at h1
 exact ⟨bal (bal (Below.refl _ _) _) _, (Below.heap_alloc _ _ _ (by simp)).trans (heap_alloc_new w _), h1⟩
def swapN (L : List Sn) (o i p j : Int) : Int := if gn L o i ≠ 0 then gn L o i else gn L p j
def swapL (L : List Sn) (o i p j : Int) : List Sn := setM (setM L o i (gt L p j)) p j (gt L o i)
theorem hswap_no (h : Hd W s hb rhb n L M l l2 S w) (o i p j : Int) (hno : ¬ (gn L o i = 0 ∧ gn L p j = 0)) :
  Calls Tryz.prog 42 #[.pointer (some ⟨hb, 0, none⟩), slV o i, slV p j] w fun e w' => e = .returned (.int .i64 (swapN L o i p j)) ∧ Below w.heap.size w w' := by
 obtain ⟨hb1, hs1, ht1⟩ := duo_boxes w o i p j
 obtain ⟨w1, hw1⟩ : ∃ y, y = (w.alloc (slO o i)).alloc (slO p j) := ⟨_, rfl⟩
 rw [← hw1] at hb1 hs1 ht1
 have H1 := hid (h.call hb1)
 have HB1 := hid hb1
 have HS1 := hid hs1
 have HR1 := hid ht1
 have HG := hid (hget H1.out o i)
 have HQ := hid (fun (v : World) (hv : Hd W s hb rhb n L M l l2 S v) => hget hv p j)
 obtain ⟨N, hN⟩ : ∃ y, y = swapN L o i p j := ⟨_, rfl⟩
 rw [← hN]
 unfold swapN at hN
 generalize gt L o i = t at *
 generalize gt L p j = c at *
 generalize gn L o i = cn at *
 generalize gn L p j = dn at *
 obtain ⟨ta, tb, tx, td, te, tf, tg, th⟩ := t
 obtain ⟨ca, cb, cx, cd, ce, cf, cg, ch⟩ := c
 have HN := hid hN
 clear hN
 obtain ⟨k0, k1⟩ := slot_cells hs1
 have HZ1 := hid (ags ht1).1
 have HW := hid hw1
 clear h hb1 hs1 ht1 hw1
 go_enter Tryz.func42, Tryz.ntmps42
 go_upto_region 1 with fail
 rw [show ((w.alloc (slO o i)).alloc (slO p j)) = w1 from HW.out.symm]
 go_upto_region 2 with (go_at_call 20; (with_reducible refine HG.out.mono ?_); rintro e w2 ⟨rfl, hb2⟩; have HB2 := hid hb2; clear hb2)
 obtain ⟨w3, hw3⟩ : ∃ y, y = w2.alloc (.cells #[.int .i64 ta, .int .i64 tb, .int .i64 tx, .int .u64 td, .int .i64 te, .int .i64 tf, .int .i64 tg, .int .i64 th] 33) := ⟨_, rfl⟩
 have hb3 : Below w1.heap.size w1 w3 := hw3 ▸ bal HB2.out _
 have hx3 : w3.heap[w2.heap.size]? = some (.cells (⟨ta, tb, tx, td, te, tf, tg, th⟩ : Cp).L.toArray 33 (0, 0)) := by rw [hw3]; exact heap_alloc_new w2 _
 have HX3 := hid hx3
 have HXG : Hid (w1.heap.size ≤ w2.heap.size) := hid HB2.out.size
 have H3 := hid (H1.out.call hb3)
 have HZ0 : Hid (w.heap.size < w1.heap.size) := hid (by have := HZ1.out; omega)
 have HS3 := hid ((hb3.block _ HZ0.out).trans HS1.out)
 have HR3 := hid ((hb3.block _ HZ1.out).trans HR1.out)
 have HB3 := hid (HB1.out.trans (hb3.mono HB1.out.size))
 rw [← hw3]
 generalize w2.heap.size = xB at *
 clear hw3 hb3 hx3 k0 k1 HG H1 HB1 HB2 HS1 HR1
 by_cases q0 : cn = 0
 ·subst q0
  have q1 : dn ≠ 0 := fun e => hno ⟨rfl, e⟩
  obtain rfl : N = dn := by rw [HN.out, if_neg (fun e => e rfl)]
  have HQ3 := hid (HQ.out w3 H3.out)
  obtain ⟨r0, r1⟩ := slot_cells HR3.out
  go_wp2_with (go_at_call 20; (with_reducible refine HQ3.out.mono ?_); rintro e w4 ⟨rfl, hb4⟩; have HB4 := hid hb4; clear hb4)
  go_ret
  exact ⟨rfl, bal (HB3.out.trans (HB4.out.mono HB3.out.size)) _⟩
 ·obtain rfl : N = cn := by rw [HN.out, if_pos q0]
  go_wp2
  go_ret
  exact ⟨rfl, HB3.out⟩
theorem hswap_yes (h : Hd W s hb rhb n L M l l2 S w) (hT0 : CX.TabG W) (o i p j : Int) (ho : InS o) (hi : InS i) (hp : InS p) (hj : InS j) (hx : (gt L o i).e ≤ 9223372036854775807) (hy : (gt L p j).e ≤ 9223372036854775807) (hnn : n < 1000000) (hon : gn L o i = 0 ∧ gn L p j = 0) :
  Calls Tryz.prog 42 #[.pointer (some ⟨hb, 0, none⟩), slV o i, slV p j] w fun e w' => e = .returned (.int .i64 0) ∧ Hd W s hb rhb (n + 2) (swapL L o i p j) M (swapA l o i p j) l2 S w' ∧ SameK S w w' := by
 obtain ⟨hb1, hs1, ht1⟩ := duo_boxes w o i p j
 obtain ⟨w1, hw1⟩ : ∃ y, y = (w.alloc (slO o i)).alloc (slO p j) := ⟨_, rfl⟩
 rw [← hw1] at hb1 hs1 ht1
 have H1 := hid (h.call hb1)
 have HB1 := hid hb1
 have HS1 := hid hs1
 have HR1 := hid ht1
 have HG := hid (hget H1.out o i)
 have HQ := hid (fun (v : World) (hv : Hd W s hb rhb n L M l l2 S v) => hget hv p j)
 have HH := hid h
 obtain ⟨L2, hL2⟩ : ∃ y, y = setM L o i (gt L p j) := ⟨_, rfl⟩
 obtain ⟨L3, hL3⟩ : ∃ y, y = setM L2 p j (gt L o i) := ⟨_, rfl⟩
 unfold swapL
 rw [← hL2, ← hL3]
 obtain ⟨n2, hn2⟩ : ∃ y, y = setN L o i (gt L p j) := ⟨_, rfl⟩
 obtain ⟨n3, hn3⟩ : ∃ y, y = setN L2 p j (gt L o i) := ⟨_, rfl⟩
 have HS2 : Hid (∀ v T, Hd W s hb rhb n L M l l2 T v → Calls Tryz.prog 71 #[.pointer (some ⟨s.sb, 0, none⟩), slV o i, (gt L p j).V] v fun e w' => e = .returned (.int .i64 n2) ∧ Hd W s hb rhb n L2 M l l2 T w' ∧ SameK T v w') := hid (fun v T hv => by rw [hL2, hn2]; exact hv.act (fun K hK => hK.set hT0 o i _ hy))
 have HS3' : Hid (∀ v T, Hd W s hb rhb n L2 M l l2 T v → Calls Tryz.prog 71 #[.pointer (some ⟨s.sb, 0, none⟩), slV p j, (gt L o i).V] v fun e w' => e = .returned (.int .i64 n3) ∧ Hd W s hb rhb n L3 M l l2 T w' ∧ SameK T v w') := hid (fun v T hv => by rw [hL3, hn3]; exact hv.act (fun K hK => hK.set hT0 p j _ hx))
 have HRT : Hid (∀ v T, Hd W s hb rhb n L3 M l l2 T v → Calls Tryz.prog 91 #[.pointer (some ⟨s.tb, 0, none⟩), slV o i, slV p j] v fun e w' => e = .returned (.int .i64 0) ∧ Hd W s hb rhb (n + 2) L3 M (swapA l o i p j) l2 T w' ∧ SameK T v w') := hid (fun v T hv => hv.act (fun K hK => hK.swap o i p j ho hi hp hj hnn))
 clear hL2 hL3 hn2 hn3
 generalize gt L o i = t at *
 generalize gt L p j = c at *
 generalize gn L o i = cn at *
 generalize gn L p j = dn at *
 obtain ⟨ta, tb, tx, td, te, tf, tg, th⟩ := t
 obtain ⟨ca, cb, cx, cd, ce, cf, cg, ch⟩ := c
 obtain ⟨rfl, rfl⟩ := hon
 obtain ⟨k0, k1⟩ := slot_cells hs1
 have HZ1 := hid (ags ht1).1
 have HW := hid hw1
 clear h hb1 hs1 ht1 hw1 hT0 hx hy ho hi hp hj hnn
 go_enter Tryz.func42, Tryz.ntmps42
 go_upto_region 1 with fail
 rw [show ((w.alloc (slO o i)).alloc (slO p j)) = w1 from HW.out.symm]
 go_upto_region 2 with (go_at_call 20; (with_reducible refine HG.out.mono ?_); rintro e w2 ⟨rfl, hb2⟩; have HB2 := hid hb2; clear hb2)
 obtain ⟨w3, hw3⟩ : ∃ y, y = w2.alloc (.cells #[.int .i64 ta, .int .i64 tb, .int .i64 tx, .int .u64 td, .int .i64 te, .int .i64 tf, .int .i64 tg, .int .i64 th] 33) := ⟨_, rfl⟩
 have hb3 : Below w1.heap.size w1 w3 := hw3 ▸ bal HB2.out _
 have hx3 : w3.heap[w2.heap.size]? = some (.cells (⟨ta, tb, tx, td, te, tf, tg, th⟩ : Cp).L.toArray 33 (0, 0)) := by rw [hw3]; exact heap_alloc_new w2 _
 have HX3 := hid hx3
 have HXG : Hid (w1.heap.size ≤ w2.heap.size) := hid HB2.out.size
 have H3 := hid (H1.out.call hb3)
 have HZ0 : Hid (w.heap.size < w1.heap.size) := hid (by have := HZ1.out; omega)
 have HS3 := hid ((hb3.block _ HZ0.out).trans HS1.out)
 have HR3 := hid ((hb3.block _ HZ1.out).trans HR1.out)
 have HB3 := hid (HB1.out.trans (hb3.mono HB1.out.size))
 rw [← hw3]
 generalize w2.heap.size = xB at *
 clear hw3 hb3 hx3 k0 k1 HG H1 HB1 HB2 HS1 HR1
 have HQ3 := hid (HQ.out w3 H3.out)
 obtain ⟨r0, r1⟩ := slot_cells HR3.out
 go_upto_region 5 with (go_at_call 20; (with_reducible refine HQ3.out.mono ?_); rintro e w4 ⟨rfl, hb4⟩; have HB4 := hid hb4; clear hb4)
 obtain ⟨w5, hw5⟩ : ∃ y, y = w4.alloc (.cells #[.int .i64 ca, .int .i64 cb, .int .i64 cx, .int .u64 cd, .int .i64 ce, .int .i64 cf, .int .i64 cg, .int .i64 ch] 33) := ⟨_, rfl⟩
 have hb5 : Below w3.heap.size w3 w5 := hw5 ▸ bal HB4.out _
 have HY5 : Hid (w5.heap[w4.heap.size]? = some (.cells (⟨ca, cb, cx, cd, ce, cf, cg, ch⟩ : Cp).L.toArray 33 (0, 0))) := hid (by rw [hw5]; exact heap_alloc_new w4 _)
 have HYG : Hid (w3.heap.size ≤ w4.heap.size) := hid HB4.out.size
 have HS5 := hid ((hb5.block _ (ags HS3.out).1).trans HS3.out)
 have HR5 := hid ((hb5.block _ (ags HR3.out).1).trans HR3.out)
 have HX5 := hid ((hb5.block _ (ags HX3.out).1).trans HX3.out)
 have HW5 := hid (HB3.out.trans (hb5.mono HB3.out.size))
 rw [← hw5]
 generalize w4.heap.size = yB at *
 have HE5 := hid (HH.out.fresh HW5.out)
 have HNS : Hid (New w w5 w.heap.size ∧ New w w5 (w.heap.size + 1) ∧ New w w5 xB ∧ New w w5 yB) := hid ⟨⟨Nat.le_refl _, (ags HS5.out).1⟩, ⟨by omega, (ags HR5.out).1⟩, ⟨by have := HXG.out; have := HZ0.out; omega, (ags HX5.out).1⟩, ⟨by have := HYG.out; have := HB3.out.size; omega, (ags HY5.out).1⟩⟩
 clear hw5 hb5 r0 r1 HQ HQ3 H3 HB3 HB4 HS3 HR3 HX3
 have HA7 : Hid (w5.cell? ⟨hb, 0, none⟩ = some (.pointer (some ⟨s.sb, 0, none⟩)) ∧ w5.cell? ⟨w.heap.size, 0, none⟩ = some (.int .i64 o) ∧ w5.cell? ⟨w.heap.size, 1, none⟩ = some (.int .i64 i) ∧ w5.cell? ⟨yB, 0, none⟩ = some (.int .i64 ca) ∧ w5.cell? ⟨yB, 1, none⟩ = some (.int .i64 cb) ∧ w5.cell? ⟨yB, 2, none⟩ = some (.int .i64 cx) ∧ w5.cell? ⟨yB, 3, none⟩ = some (.int .u64 cd) ∧ w5.cell? ⟨yB, 4, none⟩ = some (.int .i64 ce) ∧ w5.cell? ⟨yB, 5, none⟩ = some (.int .i64 cf) ∧ w5.cell? ⟨yB, 6, none⟩ = some (.int .i64 cg) ∧ w5.cell? ⟨yB, 7, none⟩ = some (.int .i64 ch)) := hid ⟨HE5.out.c.1, (slot_cells HS5.out).1, (slot_cells HS5.out).2, (cap_cells HY5.out).1, (cap_cells HY5.out).2.1, (cap_cells HY5.out).2.2.1, (cap_cells HY5.out).2.2.2.1, (cap_cells HY5.out).2.2.2.2.1, (cap_cells HY5.out).2.2.2.2.2.1, (cap_cells HY5.out).2.2.2.2.2.2.1, (cap_cells HY5.out).2.2.2.2.2.2.2⟩
 have HD7 : Hid (w5.drew.cell? ⟨hb, 0, none⟩ = some (.pointer (some ⟨s.sb, 0, none⟩)) ∧ w5.drew.cell? ⟨w.heap.size, 0, none⟩ = some (.int .i64 o) ∧ w5.drew.cell? ⟨w.heap.size, 1, none⟩ = some (.int .i64 i) ∧ w5.drew.cell? ⟨yB, 0, none⟩ = some (.int .i64 ca) ∧ w5.drew.cell? ⟨yB, 1, none⟩ = some (.int .i64 cb) ∧ w5.drew.cell? ⟨yB, 2, none⟩ = some (.int .i64 cx) ∧ w5.drew.cell? ⟨yB, 3, none⟩ = some (.int .u64 cd) ∧ w5.drew.cell? ⟨yB, 4, none⟩ = some (.int .i64 ce) ∧ w5.drew.cell? ⟨yB, 5, none⟩ = some (.int .i64 cf) ∧ w5.drew.cell? ⟨yB, 6, none⟩ = some (.int .i64 cg) ∧ w5.drew.cell? ⟨yB, 7, none⟩ = some (.int .i64 ch)) := hid HA7.out
 have HE7d := hid (HE5.out.call (show Below w5.heap.size w5 w5.drew from (Below.refl _ _).drew))
 have HC7 := hid (HS2.out _ _ HE7d.out)
 go_upto_region 7 with fail
 go_region_held3 (fun w' => w'.cell? ⟨hb, 0, none⟩ = some (.pointer (some ⟨s.sb, 0, none⟩)) ∧ w'.cell? ⟨w.heap.size, 0, none⟩ = some (.int .i64 o) ∧ w'.cell? ⟨w.heap.size, 1, none⟩ = some (.int .i64 i) ∧ w'.cell? ⟨yB, 0, none⟩ = some (.int .i64 ca) ∧ w'.cell? ⟨yB, 1, none⟩ = some (.int .i64 cb) ∧ w'.cell? ⟨yB, 2, none⟩ = some (.int .i64 cx) ∧ w'.cell? ⟨yB, 3, none⟩ = some (.int .u64 cd) ∧ w'.cell? ⟨yB, 4, none⟩ = some (.int .i64 ce) ∧ w'.cell? ⟨yB, 5, none⟩ = some (.int .i64 cf) ∧ w'.cell? ⟨yB, 6, none⟩ = some (.int .i64 cg) ∧ w'.cell? ⟨yB, 7, none⟩ = some (.int .i64 ch))
  (first | (with_reducible exact HA7.out) | (with_reducible exact HD7.out) | (with_reducible exact HF7.out))
  (first | (go_at_call 71; (with_reducible refine HC7.out.mono ?_); rintro e w6 ⟨rfl, hh, hk⟩; have HH7 := hid hh; have ha := (hk _ (.inr HNS.out.1)).trans HS5.out; have hb' := (hk _ (.inr HNS.out.2.1)).trans HR5.out; have hx := (hk _ (.inr HNS.out.2.2.1)).trans HX5.out; have hy := (hk _ (.inr HNS.out.2.2.2)).trans HY5.out; have HK7 := hid hk; have HBa7 := hid ha; have HBb7 := hid hb'; have HBx7 := hid hx; have HBy7 := hid hy; have HF7 : Hid (w6.cell? ⟨hb, 0, none⟩ = some (.pointer (some ⟨s.sb, 0, none⟩)) ∧ w6.cell? ⟨w.heap.size, 0, none⟩ = some (.int .i64 o) ∧ w6.cell? ⟨w.heap.size, 1, none⟩ = some (.int .i64 i) ∧ w6.cell? ⟨yB, 0, none⟩ = some (.int .i64 ca) ∧ w6.cell? ⟨yB, 1, none⟩ = some (.int .i64 cb) ∧ w6.cell? ⟨yB, 2, none⟩ = some (.int .i64 cx) ∧ w6.cell? ⟨yB, 3, none⟩ = some (.int .u64 cd) ∧ w6.cell? ⟨yB, 4, none⟩ = some (.int .i64 ce) ∧ w6.cell? ⟨yB, 5, none⟩ = some (.int .i64 cf) ∧ w6.cell? ⟨yB, 6, none⟩ = some (.int .i64 cg) ∧ w6.cell? ⟨yB, 7, none⟩ = some (.int .i64 ch)) := hid ⟨hh.c.1, (slot_cells ha).1, (slot_cells ha).2, (cap_cells hy).1, (cap_cells hy).2.1, (cap_cells hy).2.2.1, (cap_cells hy).2.2.2.1, (cap_cells hy).2.2.2.2.1, (cap_cells hy).2.2.2.2.2.1, (cap_cells hy).2.2.2.2.2.2.1, (cap_cells hy).2.2.2.2.2.2.2⟩; clear hh hk ha hb' hx hy))
 have HA8 : Hid (w6.cell? ⟨hb, 0, none⟩ = some (.pointer (some ⟨s.sb, 0, none⟩)) ∧ w6.cell? ⟨w.heap.size + 1, 0, none⟩ = some (.int .i64 p) ∧ w6.cell? ⟨w.heap.size + 1, 1, none⟩ = some (.int .i64 j) ∧ w6.cell? ⟨xB, 0, none⟩ = some (.int .i64 ta) ∧ w6.cell? ⟨xB, 1, none⟩ = some (.int .i64 tb) ∧ w6.cell? ⟨xB, 2, none⟩ = some (.int .i64 tx) ∧ w6.cell? ⟨xB, 3, none⟩ = some (.int .u64 td) ∧ w6.cell? ⟨xB, 4, none⟩ = some (.int .i64 te) ∧ w6.cell? ⟨xB, 5, none⟩ = some (.int .i64 tf) ∧ w6.cell? ⟨xB, 6, none⟩ = some (.int .i64 tg) ∧ w6.cell? ⟨xB, 7, none⟩ = some (.int .i64 th)) := hid ⟨HH7.out.c.1, (slot_cells HBb7.out).1, (slot_cells HBb7.out).2, (cap_cells HBx7.out).1, (cap_cells HBx7.out).2.1, (cap_cells HBx7.out).2.2.1, (cap_cells HBx7.out).2.2.2.1, (cap_cells HBx7.out).2.2.2.2.1, (cap_cells HBx7.out).2.2.2.2.2.1, (cap_cells HBx7.out).2.2.2.2.2.2.1, (cap_cells HBx7.out).2.2.2.2.2.2.2⟩
 have HD8 : Hid (w6.drew.cell? ⟨hb, 0, none⟩ = some (.pointer (some ⟨s.sb, 0, none⟩)) ∧ w6.drew.cell? ⟨w.heap.size + 1, 0, none⟩ = some (.int .i64 p) ∧ w6.drew.cell? ⟨w.heap.size + 1, 1, none⟩ = some (.int .i64 j) ∧ w6.drew.cell? ⟨xB, 0, none⟩ = some (.int .i64 ta) ∧ w6.drew.cell? ⟨xB, 1, none⟩ = some (.int .i64 tb) ∧ w6.drew.cell? ⟨xB, 2, none⟩ = some (.int .i64 tx) ∧ w6.drew.cell? ⟨xB, 3, none⟩ = some (.int .u64 td) ∧ w6.drew.cell? ⟨xB, 4, none⟩ = some (.int .i64 te) ∧ w6.drew.cell? ⟨xB, 5, none⟩ = some (.int .i64 tf) ∧ w6.drew.cell? ⟨xB, 6, none⟩ = some (.int .i64 tg) ∧ w6.drew.cell? ⟨xB, 7, none⟩ = some (.int .i64 th)) := hid HA8.out
 have HE8d := hid (HH7.out.call (show Below w6.heap.size w6 w6.drew from (Below.refl _ _).drew))
 have HC8 := hid (HS3'.out _ _ HE8d.out)
 go_upto_region 8 with fail
 go_region_held3 (fun w' => w'.cell? ⟨hb, 0, none⟩ = some (.pointer (some ⟨s.sb, 0, none⟩)) ∧ w'.cell? ⟨w.heap.size + 1, 0, none⟩ = some (.int .i64 p) ∧ w'.cell? ⟨w.heap.size + 1, 1, none⟩ = some (.int .i64 j) ∧ w'.cell? ⟨xB, 0, none⟩ = some (.int .i64 ta) ∧ w'.cell? ⟨xB, 1, none⟩ = some (.int .i64 tb) ∧ w'.cell? ⟨xB, 2, none⟩ = some (.int .i64 tx) ∧ w'.cell? ⟨xB, 3, none⟩ = some (.int .u64 td) ∧ w'.cell? ⟨xB, 4, none⟩ = some (.int .i64 te) ∧ w'.cell? ⟨xB, 5, none⟩ = some (.int .i64 tf) ∧ w'.cell? ⟨xB, 6, none⟩ = some (.int .i64 tg) ∧ w'.cell? ⟨xB, 7, none⟩ = some (.int .i64 th))
  (first | (with_reducible exact HA8.out) | (with_reducible exact HD8.out) | (with_reducible exact HF8.out))
  (first | (go_at_call 71; (with_reducible refine HC8.out.mono ?_); rintro e w7 ⟨rfl, hh, hk⟩; have HH8 := hid hh; have ha := (hk _ (.inr HNS.out.1)).trans HBa7.out; have hb' := (hk _ (.inr HNS.out.2.1)).trans HBb7.out; have hx := (hk _ (.inr HNS.out.2.2.1)).trans HBx7.out; have hy := (hk _ (.inr HNS.out.2.2.2)).trans HBy7.out; have HK8 := hid hk; have HBa8 := hid ha; have HBb8 := hid hb'; have HBx8 := hid hx; have HBy8 := hid hy; have HF8 : Hid (w7.cell? ⟨hb, 0, none⟩ = some (.pointer (some ⟨s.sb, 0, none⟩)) ∧ w7.cell? ⟨w.heap.size + 1, 0, none⟩ = some (.int .i64 p) ∧ w7.cell? ⟨w.heap.size + 1, 1, none⟩ = some (.int .i64 j) ∧ w7.cell? ⟨xB, 0, none⟩ = some (.int .i64 ta) ∧ w7.cell? ⟨xB, 1, none⟩ = some (.int .i64 tb) ∧ w7.cell? ⟨xB, 2, none⟩ = some (.int .i64 tx) ∧ w7.cell? ⟨xB, 3, none⟩ = some (.int .u64 td) ∧ w7.cell? ⟨xB, 4, none⟩ = some (.int .i64 te) ∧ w7.cell? ⟨xB, 5, none⟩ = some (.int .i64 tf) ∧ w7.cell? ⟨xB, 6, none⟩ = some (.int .i64 tg) ∧ w7.cell? ⟨xB, 7, none⟩ = some (.int .i64 th)) := hid ⟨hh.c.1, (slot_cells hb').1, (slot_cells hb').2, (cap_cells hx).1, (cap_cells hx).2.1, (cap_cells hx).2.2.1, (cap_cells hx).2.2.2.1, (cap_cells hx).2.2.2.2.1, (cap_cells hx).2.2.2.2.2.1, (cap_cells hx).2.2.2.2.2.2.1, (cap_cells hx).2.2.2.2.2.2.2⟩; clear hh hk ha hb' hx hy))
 have HA9 : Hid (w7.cell? ⟨hb, 1, none⟩ = some (.pointer (some ⟨s.tb, 0, none⟩)) ∧ w7.cell? ⟨w.heap.size, 0, none⟩ = some (.int .i64 o) ∧ w7.cell? ⟨w.heap.size, 1, none⟩ = some (.int .i64 i) ∧ w7.cell? ⟨w.heap.size + 1, 0, none⟩ = some (.int .i64 p) ∧ w7.cell? ⟨w.heap.size + 1, 1, none⟩ = some (.int .i64 j)) := hid ⟨HH8.out.c.2.1, (slot_cells HBa8.out).1, (slot_cells HBa8.out).2, (slot_cells HBb8.out).1, (slot_cells HBb8.out).2⟩
 have HD9 : Hid (w7.drew.cell? ⟨hb, 1, none⟩ = some (.pointer (some ⟨s.tb, 0, none⟩)) ∧ w7.drew.cell? ⟨w.heap.size, 0, none⟩ = some (.int .i64 o) ∧ w7.drew.cell? ⟨w.heap.size, 1, none⟩ = some (.int .i64 i) ∧ w7.drew.cell? ⟨w.heap.size + 1, 0, none⟩ = some (.int .i64 p) ∧ w7.drew.cell? ⟨w.heap.size + 1, 1, none⟩ = some (.int .i64 j)) := hid HA9.out
 have HE9d := hid (HH8.out.call (show Below w7.heap.size w7 w7.drew from (Below.refl _ _).drew))
 have HC9 := hid (HRT.out _ _ HE9d.out)
 go_upto_region 9 with fail
 go_region_held3 (fun w' => w'.cell? ⟨hb, 1, none⟩ = some (.pointer (some ⟨s.tb, 0, none⟩)) ∧ w'.cell? ⟨w.heap.size, 0, none⟩ = some (.int .i64 o) ∧ w'.cell? ⟨w.heap.size, 1, none⟩ = some (.int .i64 i) ∧ w'.cell? ⟨w.heap.size + 1, 0, none⟩ = some (.int .i64 p) ∧ w'.cell? ⟨w.heap.size + 1, 1, none⟩ = some (.int .i64 j))
  (first | (with_reducible exact HA9.out) | (with_reducible exact HD9.out) | (with_reducible exact HF9.out))
  (first | (go_at_call 91; (with_reducible refine HC9.out.mono ?_); rintro e w8 ⟨rfl, hh, hk⟩; have HH9 := hid hh; have ha := (hk _ (.inr HNS.out.1)).trans HBa8.out; have hb' := (hk _ (.inr HNS.out.2.1)).trans HBb8.out; have hx := (hk _ (.inr HNS.out.2.2.1)).trans HBx8.out; have hy := (hk _ (.inr HNS.out.2.2.2)).trans HBy8.out; have HK9 := hid hk; have HBa9 := hid ha; have HBb9 := hid hb'; have HBx9 := hid hx; have HBy9 := hid hy; have HF9 : Hid (w8.cell? ⟨hb, 1, none⟩ = some (.pointer (some ⟨s.tb, 0, none⟩)) ∧ w8.cell? ⟨w.heap.size, 0, none⟩ = some (.int .i64 o) ∧ w8.cell? ⟨w.heap.size, 1, none⟩ = some (.int .i64 i) ∧ w8.cell? ⟨w.heap.size + 1, 0, none⟩ = some (.int .i64 p) ∧ w8.cell? ⟨w.heap.size + 1, 1, none⟩ = some (.int .i64 j)) := hid ⟨hh.c.2.1, (slot_cells ha).1, (slot_cells ha).2, (slot_cells hb').1, (slot_cells hb').2⟩; clear hh hk ha hb' hx hy))
 all_goals
  go_wp2
  go_ret
  exact ⟨rfl, HH9.out.weak (fun k q => .inl q), fun k q => (HK9.out k (.inl q)).trans ((HK8.out k (.inl q)).trans ((HK7.out k (.inl q)).trans (HW5.out.block k (HH.out.lt q))))⟩
theorem fullN_zero {L : List Sn} {o i : Int} (h : fullN L o i = 0) : gn L o i = 0 ∧ (gt L o i).a ≠ 0 := by
 unfold fullN at h
 split at h
 ·cases h
 ·rename_i h1
  exact ⟨h, fun e => h1 ⟨h, e⟩⟩
theorem pairN_zero {L : List Sn} {o i p j : Int} (h : pairN L o i p j = 0) : gn L p j = 0 ∧ fullN L o i = 0 ∧ (gt L p j).a = 0 := by
 unfold pairN pairF at h
 split at h
 ·rename_i h1; exact (h1 h).elim
 ·rename_i h1
  split at h
  ·rename_i h2; exact (h2 h).elim
  ·rename_i h2
   split at h
   ·cases h
   ·rename_i h3
    exact ⟨Decidable.not_not.1 h1, Decidable.not_not.1 h2, Decidable.not_not.1 h3⟩
theorem hmove_no (h : Hd W s hb rhb n L M l l2 S w) (o i p j : Int) (hno : pairN L o i p j ≠ 0) :
  Calls Tryz.prog 24 #[.pointer (some ⟨hb, 0, none⟩), slV o i, slV p j] w fun e w' => e = .returned (.int .i64 (pairN L o i p j)) ∧ Below w.heap.size w w' := by
 obtain ⟨hb1, hs1, ht1⟩ := duo_boxes w o i p j
 obtain ⟨w1, hw1⟩ : ∃ y, y = (w.alloc (slO o i)).alloc (slO p j) := ⟨_, rfl⟩
 rw [← hw1] at hb1 hs1 ht1
 have HB1 := hid hb1
 have HG := hid (hpair (h.call hb1) o i p j)
 generalize pairC L o i p j = t at *
 generalize pairN L o i p j = cn at *
 obtain ⟨ta, tb, tx, td, te, tf, tg, th⟩ := t
 obtain ⟨k0, k1⟩ := slot_cells hs1
 obtain ⟨r0, r1⟩ := slot_cells ht1
 have HW := hid hw1
 clear h hb1 hs1 ht1 hw1
 go_enter Tryz.func24, Tryz.ntmps24
 go_upto_region 1 with fail
 rw [show ((w.alloc (slO o i)).alloc (slO p j)) = w1 from HW.out.symm]
 go_wp2_with (go_at_call 68; (with_reducible refine HG.out.mono ?_); rintro e w2 ⟨rfl, hb2⟩; have HB2 := hid hb2; clear hb2)
 go_ret
 exact ⟨rfl, bal (HB1.out.trans (HB2.out.mono HB1.out.size)) _⟩
theorem hmove_yes (h : Hd W s hb rhb n L M l l2 S w) (hT0 : CX.TabG W) (o i p j : Int) (ho : InS o) (hi : InS i) (hp : InS p) (hj : InS j) (hx : (gt L o i).e ≤ 9223372036854775807) (hy : (gt L p j).e ≤ 9223372036854775807) (hnn : n < 1000000) (hon : pairN L o i p j = 0) :
  Calls Tryz.prog 24 #[.pointer (some ⟨hb, 0, none⟩), slV o i, slV p j] w fun e w' => e = .returned (.int .i64 0) ∧ Hd W s hb rhb (n + 2) (swapL L o i p j) M (swapA l o i p j) l2 S w' ∧ SameK S w w' := by
 obtain ⟨hb1, hs1, ht1⟩ := duo_boxes w o i p j
 obtain ⟨w1, hw1⟩ : ∃ y, y = (w.alloc (slO o i)).alloc (slO p j) := ⟨_, rfl⟩
 rw [← hw1] at hb1 hs1 ht1
 have HB1 := hid hb1
 have H1 := hid (h.call hb1)
 have HH := hid h
 have HS1 := hid hs1
 have HR1 := hid ht1
 have HG := hid (hpair H1.out o i p j)
 obtain ⟨z1, z2, z3⟩ := pairN_zero hon
 have HSW := hid (fun (v : World) (hv : Hd W s hb rhb n L M l l2 S v) => hswap_yes hv hT0 o i p j ho hi hp hj hx hy hnn ⟨(fullN_zero z2).1, z1⟩)
 obtain ⟨L2, hL2⟩ : ∃ y, y = swapL L o i p j := ⟨_, rfl⟩
 rw [← hL2] at HSW ⊢
 rw [hon] at HG
 clear z1 z2 z3 hx hy hon hL2
 generalize pairC L o i p j = t at *
 obtain ⟨ta, tb, tx, td, te, tf, tg, th⟩ := t
 obtain ⟨k0, k1⟩ := slot_cells hs1
 obtain ⟨r0, r1⟩ := slot_cells ht1
 have HZ1 := hid (ags ht1).1
 have HZ0 := hid (ags hs1).1
 have HW := hid hw1
 clear h hb1 hs1 ht1 hw1 hT0 ho hi hp hj hnn
 go_enter Tryz.func24, Tryz.ntmps24
 go_upto_region 1 with fail
 rw [show ((w.alloc (slO o i)).alloc (slO p j)) = w1 from HW.out.symm]
 go_upto_region 4 with (go_at_call 68; (with_reducible refine HG.out.mono ?_); rintro e w2 ⟨rfl, hb2⟩; have HB2 := hid hb2; clear hb2)
 obtain ⟨w3, hw3⟩ : ∃ y, y = w2.alloc (.cells #[.int .i64 ta, .int .i64 tb, .int .i64 tx, .int .u64 td, .int .i64 te, .int .i64 tf, .int .i64 tg, .int .i64 th] 33) := ⟨_, rfl⟩
 have hb3 : Below w1.heap.size w1 w3 := hw3 ▸ bal HB2.out _
 have HB3 := hid (HB1.out.trans (hb3.mono HB1.out.size))
 have HC3 := hid (HSW.out w3 (H1.out.call hb3))
 have hs3 := (hb3.block _ HZ0.out).trans HS1.out
 have ht3 := (hb3.block _ HZ1.out).trans HR1.out
 rw [← hw3]
 clear k0 k1 r0 r1 hw3 hb3
 obtain ⟨k0, k1⟩ := slot_cells hs3
 obtain ⟨r0, r1⟩ := slot_cells ht3
 clear hs3 ht3 HG HSW H1
 go_wp2_with (go_at_call 42; (with_reducible refine HC3.out.mono ?_); rintro e w4 ⟨rfl, h4, hk4⟩; have H4 := hid h4; have HK4 := hid hk4; clear h4 hk4)
 go_ret
 exact ⟨rfl, H4.out, fun k q => (HK4.out k q).trans (HB3.out.block k (HH.out.lt q))⟩
theorem hadd (h : Hd W s hb rhb n L M l l2 S w) (hl : L.length < 1000000) (id k : Int) :
  Calls Tryz.prog 29 #[.pointer (some ⟨hb, 0, none⟩), .int .i64 id, .int .i64 k] w fun e w' => e = .returned (.int .i64 (addSR L id k)) ∧ ∃ L', AddRel L id k L' ∧ Hd W s hb rhb n L' M l l2 S w' ∧ SameK S w w' := by
 have HS := hid (hslots h)
 have HC := hid (h.bo.add hl id k)
 have HH := hid h
 generalize addSR L id k = r at *
 clear h
 go_enter Tryz.func29, Tryz.ntmps29
 go_wp2_with (first
  | (go_at_call 51; (with_reducible refine HS.out.mono ?_); rintro e w2 ⟨rfl, rfl⟩)
  | (go_at_call 75; (with_reducible refine HC.out.mono ?_); rintro e w3 ⟨rfl, L3, hr3, hb3, hk3⟩; have HR := hid hr3; have HB := hid hb3; have HK := hid hk3; clear hr3 hb3 hk3))
 go_ret
 exact ⟨rfl, L3, HR.out, HH.out.lift HB.out HK.out, fun k q => HK.out k (.inr (.inr q))⟩
theorem hdrop (h : Hd W s hb rhb n L M l l2 S w) (id : Int) :
  Calls Tryz.prog 45 #[.pointer (some ⟨hb, 0, none⟩), .int .i64 id] w fun e w' => e = .returned (.int .i64 (dropSR L id)) ∧ Hd W s hb rhb n (dropSL L id) M l l2 S w' ∧ SameK S w w' := by
 have HS := hid (hslots h)
 have HC := hid (h.bo.drop id)
 have HH := hid h
 obtain ⟨L2, hL2⟩ : ∃ y, y = dropSL L id := ⟨_, rfl⟩
 rw [← hL2] at HC ⊢
 generalize dropSR L id = r at *
 clear h hL2
 go_enter Tryz.func45, Tryz.ntmps45
 go_wp2_with (first
  | (go_at_call 51; (with_reducible refine HS.out.mono ?_); rintro e w2 ⟨rfl, rfl⟩)
  | (go_at_call 94; (with_reducible refine HC.out.mono ?_); rintro e w3 ⟨rfl, hb3, hk3⟩; have HB := hid hb3; have HK := hid hk3; clear hb3 hk3))
 go_ret
 exact ⟨rfl, HH.out.lift HB.out HK.out, fun k q => HK.out k (.inr (.inr q))⟩
end HdS
end
end Go.Proofs.YtchjfeafkmpmbaaGreatDoor
