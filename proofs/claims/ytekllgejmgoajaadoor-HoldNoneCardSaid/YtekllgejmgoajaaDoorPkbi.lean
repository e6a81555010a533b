import Derived.Test.YtekllgejmgoajaaDoorPkbh
namespace Go.Proofs.YtekllgejmgoajaaDoor
set_option linter.unusedVariables false
set_option linter.unusedSimpArgs false
set_option maxRecDepth 100000
set_option maxHeartbeats 8000000
open Lib (hid)
section
open Go.ChangeShapes Go.WideShapes Go.ChangeAt Go.RowKit Go.Shelf
namespace HpS
open TabS (Cp Sn zC mayC sizS getR getN FootP foot_ltP SameS AddRel addSR setN setM rowsS hasS dropSR dropSL heldA hdsC)
open TabP (Two Pr)
variable {W w w' : World} {s : Sh} {hb rhb n n' : Nat} {L M L' M' : List Sn} {l l2 l' l2' : List Nod} {S : Nat → Prop}
theorem Hd.mono (h : Hd W s hb rhb n L M l l2 S w) (hn : n ≤ n') : Hd W s hb rhb n' L M l l2 S w := ⟨h.bo.mono hn, h.hd⟩
theorem Hd.same (h : Hd W s hb rhb n L M l l2 S w) (hB : Below w.heap.size w w') : SameK S w w' := fun k q => hB.block k (h.lt q)
def chB (L : List Sn) (o i p j : Int) (c : Cp) : Bool := decide (pairN L o i p j = 0) && someB c
theorem chB_on {L : List Sn} {o i p j : Int} {c : Cp} : chB L o i p j c = true ↔ childOn L o i p j c := by unfold chB childOn; simp
def chL (L : List Sn) (o i p j : Int) (c : Cp) : List Sn := if chB L o i p j c = true then setM L p j c else L
def chT (L : List Sn) (l : List Nod) (o i p j : Int) (c : Cp) : List Nod := if chB L o i p j c = true then (childA l o i p j).1 else l
theorem hchild (h : Hd W s hb rhb n L M l l2 S w) (hT0 : CX.TabG W) (o i p j : Int) (ho : InS o) (hi : InS i) (hp : InS p) (hj : InS j) (c : Cp) (he : c.e ≤ 9223372036854775807) (hnn : n < 1000000) :
  Calls Tryd.prog 7 #[.pointer (some ⟨hb, 0, none⟩), slV o i, slV p j, c.V] w fun e w' => e = .returned (.int .i64 (childN L l o i p j c)) ∧ Hd W s hb rhb (n + 1) (chL L o i p j c) M (chT L l o i p j c) l2 S w' ∧ SameK S w w' := by
 unfold chL chT
 cases hc : chB L o i p j c with
 | true =>
  have hon := chB_on.1 hc
  refine (hchild_yes h hT0 o i p j ho hi hp hj c he hnn hon).mono ?_
  rintro e w' ⟨he, h1, h2⟩
  refine ⟨?_, h1, h2⟩
  rw [he]
  unfold childN childF
  rw [hon.1, hon.2]
  rfl
 | false =>
  refine (hchild_no h hT0 o i p j c he (fun z => by rw [chB_on.2 z] at hc; cases hc)).mono ?_
  rintro e w' ⟨he, hB⟩
  exact ⟨he, (h.call hB).mono (Nat.le_succ n), h.same hB⟩
def derN (L : List Sn) (l : List Nod) (o i p j : Int) (r : Cp × Int) : Int := if pairN L o i p j ≠ 0 then pairN L o i p j else if r.2 ≠ 0 then r.2 else childN L l o i p j r.1
def derL (L : List Sn) (o i p j : Int) (r : Cp × Int) : List Sn := if pairN L o i p j = 0 ∧ r.2 = 0 then chL L o i p j r.1 else L
def derT (L : List Sn) (l : List Nod) (o i p j : Int) (r : Cp × Int) : List Nod := if pairN L o i p j = 0 ∧ r.2 = 0 then chT L l o i p j r.1 else l
theorem hcopyD (h : Hd W s hb rhb n L M l l2 S w) (hT0 : CX.TabG W) (o i p j : Int) (ho : InS o) (hi : InS i) (hp : InS p) (hj : InS j) (m : Int) (mB : Nat) (hx : (gt L o i).e ≤ 9223372036854775807) (hr : (cpy (gt L o i) m).1.e ≤ 9223372036854775807) (hm : w.cell? ⟨mB, 0, none⟩ = some (.int .i64 m)) (hz : mB < w.heap.size) (hnn : n < 1000000) :
  Calls Tryd.prog 30 #[.pointer (some ⟨hb, 0, none⟩), slV o i, slV p j, .func (.func 31) #[] #[.pointer (some ⟨mB, 0, none⟩)]] w fun e w' => e = .returned (.int .i64 (derN L l o i p j (cpy (gt L o i) m))) ∧ Hd W s hb rhb (n + 1) (derL L o i p j (cpy (gt L o i) m)) M (derT L l o i p j (cpy (gt L o i) m)) l2 S w' ∧ SameK S w w' := by
 have HCL : Hid (∀ v, Below w.heap.size w v → Calls Tryd.prog 31 (#[(gt L o i).V] ++ #[.pointer (some ⟨mB, 0, none⟩)]) v fun e w' => e = .returned (.tuple #[(cpy (gt L o i) m).1.V, .int .i64 (cpy (gt L o i) m).2]) ∧ Below v.heap.size v w') := hid (fun v hv => hcopy1 v (hT0.call (h.call hv).below) (gt L o i) m mB hx ((hv.cell (p := ⟨mB, 0, none⟩) hz).trans hm) (Nat.lt_of_lt_of_le hz hv.size))
 generalize (cpy (gt L o i) m) = r at *
 unfold derN derL derT
 by_cases hon : pairN L o i p j = 0
 ·obtain ⟨hb1, hs1, ht1⟩ := duo_boxes w o i p j
  obtain ⟨w1, hw1⟩ : ∃ y, y = (w.alloc (slO o i)).alloc (slO p j) := ⟨_, rfl⟩
  rw [← hw1] at hb1 hs1 ht1
  have HB1 := hid hb1
  have H1 := hid (h.call hb1)
  have HH := hid h
  have HS1 := hid hs1
  have HR1 := hid ht1
  have HG := hid (hpair H1.out o i p j)
  rw [pairC_zero hon, hon] at HG
  rw [if_neg (fun e => e hon)]
  have HCH := hid (fun (v : World) (hv : Hd W s hb rhb n L M l l2 S v) => hchild hv hT0 o i p j ho hi hp hj r.1 hr hnn)
  have HP := hid hon
  clear hon hr hT0 hnn hm hz ho hi hp hj hx
  obtain ⟨⟨ca, cb, cx, cd, ce, cf, cg, ch⟩, k⟩ := r
  obtain ⟨N, hN⟩ : ∃ y, y = childN L l o i p j ⟨ca, cb, cx, cd, ce, cf, cg, ch⟩ := ⟨_, rfl⟩
  obtain ⟨L2, hL2⟩ : ∃ y, y = chL L o i p j ⟨ca, cb, cx, cd, ce, cf, cg, ch⟩ := ⟨_, rfl⟩
  obtain ⟨l3, hl3⟩ : ∃ y, y = chT L l o i p j ⟨ca, cb, cx, cd, ce, cf, cg, ch⟩ := ⟨_, rfl⟩
  rw [← hN, ← hL2, ← hl3] at HCH
  simp only []
  rw [← hN, ← hL2, ← hl3]
  clear hN hL2 hl3
  obtain ⟨RN, hRN⟩ : ∃ y : Int, y = (if k ≠ 0 then k else N) := ⟨_, rfl⟩
  obtain ⟨RL, hRL⟩ : ∃ y : List Sn, y = (if pairN L o i p j = 0 ∧ k = 0 then L2 else L) := ⟨_, rfl⟩
  obtain ⟨RT, hRT⟩ : ∃ y : List Nod, y = (if pairN L o i p j = 0 ∧ k = 0 then l3 else l) := ⟨_, rfl⟩
  rw [← hRN, ← hRL, ← hRT]
  have HRN := hid hRN
  have HRL := hid hRL
  have HRT := hid hRT
  clear hRN hRL hRT
  generalize gt L o i = t at *
  obtain ⟨ta, tb, tx, td, te, tf, tg, th⟩ := t
  obtain ⟨k0, k1⟩ := slot_cells hs1
  obtain ⟨r0, r1⟩ := slot_cells ht1
  have HZ1 := hid (ags ht1).1
  have HZ0 := hid (ags hs1).1
  have HW := hid hw1
  clear h hb1 hs1 ht1 hw1
  go_enter Tryd.func30, Tryd.ntmps30
  go_upto_region 1 with fail
  rw [show ((w.alloc (slO o i)).alloc (slO p j)) = w1 from HW.out.symm]
  go_upto_region 4 with (go_at_call 27; (with_reducible refine HG.out.mono ?_); rintro e w2 ⟨rfl, hb2⟩; have HB2 := hid hb2; clear hb2)
  obtain ⟨w3, hw3⟩ : ∃ y, y = w2.alloc (.cells #[.int .i64 ta, .int .i64 tb, .int .i64 tx, .int .u64 td, .int .i64 te, .int .i64 tf, .int .i64 tg, .int .i64 th] 26) := ⟨_, rfl⟩
  have hb3 : Below w1.heap.size w1 w3 := hw3 ▸ bal HB2.out _
  have hx3 : w3.heap[w2.heap.size]? = some (.cells (⟨ta, tb, tx, td, te, tf, tg, th⟩ : Cp).L.toArray 26 (0, 0)) := by rw [hw3]; exact heap_alloc_new w2 _
  have HB13 := hid hb3
  have HB3 := hid (HB1.out.trans (hb3.mono HB1.out.size))
  have HC3 : Hid (Calls Tryd.prog 31 #[.agg #[.int .i64 ta, .int .i64 tb, .int .i64 tx, .int .u64 td, .int .i64 te, .int .i64 tf, .int .i64 tg, .int .i64 th], .pointer (some ⟨mB, 0, none⟩)] w3 fun e w' => e = .returned (.tuple #[.agg #[.int .i64 ca, .int .i64 cb, .int .i64 cx, .int .u64 cd, .int .i64 ce, .int .i64 cf, .int .i64 cg, .int .i64 ch], .int .i64 k]) ∧ Below w3.heap.size w3 w') := hid (HCL.out w3 HB3.out)
  have HS3 := hid ((hb3.block _ HZ0.out).trans HS1.out)
  have HR3 := hid ((hb3.block _ HZ1.out).trans HR1.out)
  rw [← hw3]
  generalize w2.heap.size = xB at *
  obtain ⟨x0, x1, x2, x3, x4, x5, x6, x7⟩ := cap_cells hx3
  simp only [] at x0 x1 x2 x3 x4 x5 x6 x7
  clear k0 k1 r0 r1 hw3 hb3 hx3 HG HS1 HR1 HB2
  go_upto_region 5 with (go_at_call 31; (with_reducible refine HC3.out.mono ?_); rintro e w4 ⟨rfl, hb4⟩; have HB4 := hid hb4; clear hb4)
  obtain ⟨w5, hw5⟩ : ∃ y, y = w4.alloc (.cells #[.int .i64 ca, .int .i64 cb, .int .i64 cx, .int .u64 cd, .int .i64 ce, .int .i64 cf, .int .i64 cg, .int .i64 ch] 26) := ⟨_, rfl⟩
  have hb5 : Below w3.heap.size w3 w5 := hw5 ▸ bal HB4.out _
  have hx5 : w5.heap[w4.heap.size]? = some (.cells (⟨ca, cb, cx, cd, ce, cf, cg, ch⟩ : Cp).L.toArray 26 (0, 0)) := by rw [hw5]; exact heap_alloc_new w4 _
  have HB5 := hid (HB3.out.trans (hb5.mono HB3.out.size))
  have hs5 := (hb5.block _ (ags HS3.out).1).trans HS3.out
  have ht5 := (hb5.block _ (ags HR3.out).1).trans HR3.out
  have HC5 := hid (HCH.out w5 (HH.out.call HB5.out))
  rw [← hw5]
  generalize w4.heap.size = yB at *
  clear x0 x1 x2 x3 x4 x5 x6 x7
  obtain ⟨x0, x1, x2, x3, x4, x5, x6, x7⟩ := cap_cells hx5
  simp only [] at x0 x1 x2 x3 x4 x5 x6 x7
  obtain ⟨k0, k1⟩ := slot_cells hs5
  obtain ⟨r0, r1⟩ := slot_cells ht5
  clear hw5 hb5 hx5 hs5 ht5 HS3 HR3 HCH HCL HC3 H1
  by_cases hk : k = 0
  ·subst hk
   obtain rfl : N = RN := Eq.symm (by rw [HRN.out, if_neg (fun e => e rfl)])
   obtain rfl : L2 = RL := Eq.symm (by rw [HRL.out, if_pos ⟨HP.out, rfl⟩])
   obtain rfl : l3 = RT := Eq.symm (by rw [HRT.out, if_pos ⟨HP.out, rfl⟩])
   go_wp2_with (go_at_call 7; (with_reducible refine HC5.out.mono ?_); rintro e w6 ⟨rfl, h6, hk6⟩; have H6 := hid h6; have HK6 := hid hk6; clear h6 hk6)
   go_ret
   exact ⟨rfl, H6.out, fun k q => (HK6.out k q).trans (HB5.out.block k (HH.out.lt q))⟩
  ·have HK := hid hk
   have hRN := HRN.out
   have hRL := HRL.out
   have hRT := HRT.out
   rw [if_pos hk] at hRN
   rw [if_neg (fun e => HK.out e.2)] at hRL hRT
   have hk' : (k == 0) = false := beq_eq_false_iff_ne.2 hk
   subst hRN hRL hRT
   go_wp2
   go_ret
   exact ⟨rfl, (HH.out.call HB5.out).mono (Nat.le_succ n), HH.out.same HB5.out⟩
 ·rw [if_pos hon, if_neg (fun e => hon e.1), if_neg (fun e => hon e.1)]
  refine (hderived_no h o i p j 31 #[.pointer (some ⟨mB, 0, none⟩)] r HCL.out hon).mono ?_
  rintro e w' ⟨he, hB⟩
  exact ⟨he, (h.call hB).mono (Nat.le_succ n), h.same hB⟩
theorem hcopy (h : Hd W s hb rhb n L M l l2 S w) (hT0 : CX.TabG W) (o i p j : Int) (ho : InS o) (hi : InS i) (hp : InS p) (hj : InS j) (m : Int) (hx : (gt L o i).e ≤ 9223372036854775807) (hr : (cpy (gt L o i) m).1.e ≤ 9223372036854775807)  (hnn : n < 1000000) :
  Calls Tryd.prog 9 #[.pointer (some ⟨hb, 0, none⟩), slV o i, slV p j, .int .i64 m] w fun e w' => e = .returned (.int .i64 (derN L l o i p j (cpy (gt L o i) m))) ∧ Hd W s hb rhb (n + 1) (derL L o i p j (cpy (gt L o i) m)) M (derT L l o i p j (cpy (gt L o i) m)) l2 S w' ∧ SameK S w w' := by
 obtain ⟨hb0, hs0, ht0⟩ := duo_boxes w o i p j
 obtain ⟨w1, hw1⟩ : ∃ y, y = ((w.alloc (slO o i)).alloc (slO p j)).alloc (.cells #[.int .i64 m] 3) := ⟨_, rfl⟩
 have hb1 : Below w.heap.size w w1 := hw1 ▸ bal (bal (bal (Below.refl _ _) _) _) _
 have hsz : w1.heap.size = w.heap.size + 3 := by rw [hw1]; simp
 have hs1 : w1.heap[w.heap.size]? = some (.cells #[.int .i64 o, .int .i64 i] 23 (0, 0)) := by
  rw [hw1]
  rw [Below.heap_alloc _ _ _ (by simp; try omega)]
  exact hs0
 have ht1 : w1.heap[w.heap.size + 1]? = some (.cells #[.int .i64 p, .int .i64 j] 23 (0, 0)) := by
  rw [hw1]
  rw [Below.heap_alloc _ _ _ (by simp; try omega)]
  exact ht0
 have hm0 : w1.cell? ⟨w.heap.size + 2, 0, none⟩ = some (.int .i64 m) := by
  rw [hw1]
  have := heap_alloc_new ((w.alloc (slO o i)).alloc (slO p j)) (.cells #[.int .i64 m] 3)
  simp only [World.size_alloc] at this
  exact cell_cur (cur := [.int .i64 m]) this 0
 have H1 := hid (h.call hb1)
 have HB1 := hid hb1
 have HH := hid h
 have HD := hid (hcopyD H1.out hT0 o i p j ho hi hp hj m (w.heap.size + 2) hx hr hm0 (by omega) hnn)
 generalize derN L l o i p j (cpy (gt L o i) m) = N at *
 generalize derL L o i p j (cpy (gt L o i) m) = L2 at *
 generalize derT L l o i p j (cpy (gt L o i) m) = l3 at *
 obtain ⟨k0, k1⟩ := slot_cells hs1
 obtain ⟨r0, r1⟩ := slot_cells ht1
 have HW := hid hw1
 clear h hb0 hs0 ht0 hb1 hs1 ht1 hw1 hT0 hx hr hnn ho hi hp hj hsz hm0
 go_enter Tryd.func9, Tryd.ntmps9
 go_upto_region 1 with fail
 rw [show (((w.alloc (slO o i)).alloc (slO p j)).alloc (.cells #[.int .i64 m] 3)) = w1 from HW.out.symm]
 go_wp2_with (go_at_call 30; (with_reducible refine HD.out.mono ?_); rintro e w6 ⟨rfl, h6, hk6⟩; have H6 := hid h6; have HK6 := hid hk6; clear h6 hk6)
 go_ret
 exact ⟨rfl, H6.out, fun k q => (HK6.out k q).trans (HB1.out.block k (HH.out.lt q))⟩
end HpS
end
end Go.Proofs.YtekllgejmgoajaaDoor
