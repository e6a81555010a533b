import Derived.Test.YtchjfeafkmpmbaaGreatDoorPkax
import Derived.Test.YtchjfeafkmpmbaaGreatDoorFrame
import Derived.LoopTactic
import Derived.RegionTactic
import Derived.Test.YtchjfeafkmpmbaaGreatDoorRows
import Derived.WalkKit
import Derived.ProofKit
import Derived.OpenShut
import Derived.Deep.QuietTactic
import Derived.BigQuiet
import Derived.Lib.Hide
import Derived.Laws.BitsAllLaws
namespace Go.Proofs.YtchjfeafkmpmbaaGreatDoor
set_option linter.unusedVariables false
set_option linter.unusedSimpArgs false
set_option maxRecDepth 100000
set_option maxHeartbeats 8000000
open Lib (hid)
section
open Go.ChangeShapes Go.WideShapes Go.ChangeAt Go.RowKit Go.Shelf
namespace HdS
open TabS (Cp Sn zC mayC sizS getR getN Two Pr FootP foot_ltP foot_ltR SameS AddRel addSR setN setM rowsS hasS dropSR dropSL heldA hdsC)
variable {W w w' : World} {s : Sh} {hb rhb n n' : Nat} {L M L' M' : List Sn} {l l2 l' l2' : List Nod} {S : Nat → Prop}
theorem rsome (w : World) (c : Cp) :
  Calls Tryz.prog 80 #[c.V] w fun e w' => e = .returned (.bool (someB c)) ∧ Below w.heap.size w w' := by
 obtain ⟨ca, cb, cx, cd, ce, cf, cg, ch⟩ := c
 have hal : Below w.heap.size w (w.alloc (.cells #[.int .i64 ca, .int .i64 cb, .int .i64 cx, .int .u64 cd, .int .i64 ce, .int .i64 cf, .int .i64 cg, .int .i64 ch] 33)) := bal (Below.refl _ _) _
 obtain ⟨w1, hw1⟩ : ∃ y, y = w.alloc (.cells #[.int .i64 ca, .int .i64 cb, .int .i64 cx, .int .u64 cd, .int .i64 ce, .int .i64 cf, .int .i64 cg, .int .i64 ch] 33) := ⟨_, rfl⟩
 have hx : w1.heap[w.heap.size]? = some (.cells (⟨ca, cb, cx, cd, ce, cf, cg, ch⟩ : Cp).L.toArray 33 (0, 0)) := by rw [hw1]; exact heap_alloc_new w _
 rw [← hw1] at hal
 have HAL := hid hal
 have HW := hid hw1
 obtain ⟨x0, x1, x2, x3, x4, x5, x6, x7⟩ := cap_cells hx
 simp only [] at x0 x1 x2 x3 x4 x5 x6 x7
 have HM := hid (CX.refMay13 ca cb cx cd ce cf cg ch w1)
 obtain ⟨sm, hsm⟩ : ∃ y, y = someB (⟨ca, cb, cx, cd, ce, cf, cg, ch⟩ : Cp) := ⟨_, rfl⟩
 rw [← hsm]
 unfold someB at hsm
 obtain ⟨mb, hmb⟩ : ∃ y, y = mayC (⟨ca, cb, cx, cd, ce, cf, cg, ch⟩ : Cp) := ⟨_, rfl⟩
 have HM' : Hid (Calls Tryz.prog 110 #[.agg #[.int .i64 ca, .int .i64 cb, .int .i64 cx, .int .u64 cd, .int .i64 ce, .int .i64 cf, .int .i64 cg, .int .i64 ch]] w1 fun e w' => e = .returned (.bool mb) ∧ Below w1.heap.size w1 w') := hid (by rw [hmb]; exact HM.out)
 rw [← hmb] at hsm
 simp only [] at hsm
 have HSM := hid hsm
 clear hal hw1 hx hmb hsm HM
 by_cases h0 : ca = 0
 ·subst h0
  obtain rfl : sm = false := by rw [HSM.out]; simp
  go_enter Tryz.func80, Tryz.ntmps80
  go_upto_region 1 with fail
  rw [← HW.out]
  go_wp2
  go_ret
  exact ⟨rfl, HAL.out⟩
 ·obtain rfl : sm = mb := by rw [HSM.out]; simp [h0]
  have h1 : (ca == 0) = false := beq_eq_false_iff_ne.2 h0
  go_enter Tryz.func80, Tryz.ntmps80
  go_upto_region 1 with fail
  rw [← HW.out]
  go_wp2_with (go_at_call 110; (with_reducible refine HM'.out.mono ?_); rintro e w2 ⟨rfl, hb2⟩; have HB2 := hid (HAL.out.trans (hb2.mono HAL.out.size)); clear hb2)
  go_ret
  exact ⟨by first | rfl | (simp [h0]; done), HB2.out⟩
theorem hclear_no (h : Hd W s hb rhb n L M l l2 S w) (o i : Int) (hno : fullN L o i ≠ 0) :
  Calls Tryz.prog 27 #[.pointer (some ⟨hb, 0, none⟩), slV o i] w fun e w' => e = .returned (.tuple #[zC.V, .int .i64 (fullN L o i)]) ∧ Below w.heap.size w w' := by
 obtain ⟨hb1, hs1, hc1⟩ := two_boxes w o i
 obtain ⟨w1, hw1⟩ : ∃ y, y = (w.alloc (slO o i)).alloc (.cells zC.L.toArray 33) := ⟨_, rfl⟩
 rw [← hw1] at hb1 hs1 hc1
 have H1 := hid (h.call hb1)
 have HB1 := hid hb1
 have HC1 := hid hc1
 have HG := hid (hfull H1.out o i)
 obtain ⟨k0, k1⟩ := slot_cells hs1
 generalize gt L o i = c at *
 generalize fullN L o i = cn at *
 obtain ⟨ca, cb, cx, cd, ce, cf, cg, ch⟩ := c
 have HZ1 := hid (ags hc1).1
 have HW := hid hw1
 clear h hb1 hs1 hc1 hw1
 go_enter Tryz.func27, Tryz.ntmps27
 go_upto_region 1 with fail
 rw [show ((w.alloc (slO o i)).alloc (.cells #[.int .i64 0, .int .i64 0, .int .i64 0, .int .u64 0, .int .i64 0, .int .i64 0, .int .i64 0, .int .i64 0] 33)) = w1 from HW.out.symm]
 go_upto_region 2 with (go_at_call 69; (with_reducible refine HG.out.mono ?_); rintro e w2 ⟨rfl, hb2⟩; have HB2 := hid hb2; clear hb2)
 obtain ⟨w3, hw3⟩ : ∃ y, y = w2.alloc (.cells #[.int .i64 ca, .int .i64 cb, .int .i64 cx, .int .u64 cd, .int .i64 ce, .int .i64 cf, .int .i64 cg, .int .i64 ch] 33) := ⟨_, rfl⟩
 have hb3 : Below w1.heap.size w1 w3 := hw3 ▸ bal HB2.out _
 have hx3 : w3.heap[w2.heap.size]? = some (.cells (⟨ca, cb, cx, cd, ce, cf, cg, ch⟩ : Cp).L.toArray 33 (0, 0)) := by rw [hw3]; exact heap_alloc_new w2 _
 have hc3 := (hb3.block _ HZ1.out).trans HC1.out
 have HC3 := hid hc3
 have HFB := hid (lay8_below (k := w.heap.size + 1) ⟨0, 0, 0, 0, 0, 0, 0, 0⟩ (HB1.out.trans (hb3.mono HB1.out.size)) (by omega))
 rw [← hw3]
 generalize w2.heap.size = xB at *
 obtain ⟨x0, x1, x2, x3, x4, x5, x6, x7⟩ := cap_cells hx3
 simp only [] at x0 x1 x2 x3 x4 x5 x6 x7
 obtain ⟨y0, y1, y2, y3, y4, y5, y6, y7⟩ := cap_cells hc3
 have g0 := cap_froz hc3 0
 have g1 := cap_froz hc3 1
 have g2 := cap_froz hc3 2
 have g3 := cap_froz hc3 3
 have g4 := cap_froz hc3 4
 have g5 := cap_froz hc3 5
 have g6 := cap_froz hc3 6
 have g7 := cap_froz hc3 7
 have hz3 := (ags hc3).1
 have HF := hid (lay8_same ⟨0, 0, 0, 0, 0, 0, 0, 0⟩ HC3.out)
 obtain ⟨w4, hw4⟩ : ∃ y, y = lay8 w3 (w.heap.size + 1) ⟨0, 0, 0, 0, 0, 0, 0, 0⟩ := ⟨_, rfl⟩
 rw [← hw4] at HF HFB
 simp only [lay8] at hw4
 have H4 := hid hw4
 clear hw4
 clear hw3 hb3 hx3 hc3 k0 k1 HG H1
 go_wp2
 rw [← H4.out]
 obtain ⟨q0, q1, q2, q3, q4, q5, q6, q7⟩ := cap_cells HF.out
 simp only [] at q0 q1 q2 q3 q4 q5 q6 q7
 exact bodyPost_ret (v := .tuple #[.agg #[.int .i64 0, .int .i64 0, .int .i64 0, .int .u64 0, .int .i64 0, .int .i64 0, .int .i64 0, .int .i64 0], .int .i64 cn]) (by simp [results, Tryz.results27, go_sem, q0, q1, q2, q3, q4, q5, q6, q7]) rfl ⟨rfl, HFB.out⟩
end HdS
end
section
namespace CX
open Go.ChangeShapes Go.WideShapes Go.ChangeAt Go.RowKit
structure CapX where
 a : Int
 b : Int
 c : Int
 d : Int
 e : Int
 f : Int
 g : Int
 h : Int
abbrev CapX.val (x : CapX) : Value := .agg #[.int .i64 x.a, .int .i64 x.b, .int .i64 x.c, .int .u64 x.d, .int .i64 x.e, .int .i64 x.f, .int .i64 x.g, .int .i64 x.h]
def CapX.Ok (x : CapX) : Prop := (-9223372036854775808 ≤ x.a ∧ x.a ≤ 9223372036854775807) ∧ (-9223372036854775808 ≤ x.b ∧ x.b ≤ 9223372036854775807) ∧ (-9223372036854775808 ≤ x.c ∧ x.c ≤ 9223372036854775807) ∧ (0 ≤ x.d ∧ x.d ≤ 18446744073709551615) ∧ (-9223372036854775808 ≤ x.e ∧ x.e ≤ 9223372036854775807) ∧ (-9223372036854775808 ≤ x.f ∧ x.f ≤ 9223372036854775807) ∧ (-9223372036854775808 ≤ x.g ∧ x.g ≤ 9223372036854775807) ∧ (-9223372036854775808 ≤ x.h ∧ x.h ≤ 9223372036854775807)
theorem part_bd (r m : Int) (k : Nat) : 0 ≤ partN r m k ∧ partN r m k ≤ 7 := by
 unfold partN
 split <;> split <;> split <;> omega
theorem part1 (r m : Int) : partN r m 1 = partN r m 0 + (if hasB m 1 = true ∧ hasB r 1 = true then 1 else 0) := by
 simp [partN]
theorem part2 (r m : Int) : partN r m 2 = partN r m 1 + (if hasB m 2 = true ∧ hasB r 2 = true then 2 else 0) := by
 simp [partN]
theorem part3 (r m : Int) : partN r m 3 = partN r m 2 + (if hasB m 4 = true ∧ hasB r 4 = true then 4 else 0) := by
 simp [partN]
theorem kept_any (a b c d e f g h : Int) (m : Int) (w : World) (c0 : 0 ≤ c) (c1 : c ≤ 7) (m0 : 0 ≤ m) (m1 : m ≤ 7) :
  Calls Tryz.prog 99 #[.agg #[.int .i64 a, .int .i64 b, .int .i64 c, .int .u64 d, .int .i64 e, .int .i64 f, .int .i64 g, .int .i64 h], .int .i64 m] w fun e w' => e = .returned (.int .i64 (maskN c m)) ∧ Below w.heap.size w w' := by
 have hp := part_mask c0 c1 m0 m1
 go_enter Tryz.func99, Tryz.ntmps99
 go_wp2_with (fail)
 go_loop [5, 6] (fun s r => (r = .int .i64 1 ∧ s = .int .i64 (partN c m 0)) ∨ (r = .int .i64 2 ∧ s = .int .i64 (partN c m 1)) ∨ (r = .int .i64 4 ∧ s = .int .i64 (partN c m 2)) ∨ (r = .int .i64 8 ∧ s = .int .i64 (partN c m 3))) (fun _ r => 8 - (intOf r).toNat)
 case atStart => exact .inl ⟨rfl, by simp [partN]⟩
 case round =>
  obtain ⟨rfl, rfl⟩ | ⟨rfl, rfl⟩ | ⟨rfl, rfl⟩ | ⟨rfl, rfl⟩ := hrel
  ·have P := part1 c m
   have B := part_bd c m 0
   obtain ⟨B0, B1⟩ := B
   have B2 := part_bd c m 1
   obtain ⟨B20, B21⟩ := B2
   cases h1 : hasB m 1 <;> cases h2 : hasB c 1
   all_goals
    rw [h1, h2] at P
    simp only [Bool.false_eq_true, false_and, and_false, and_self, if_false, if_true, Int.add_zero] at P
    generalize partN c m 1 = s' at *
    generalize partN c m 0 = s at *
    go_wp2
    go_step3
    go_wp2
    go_step3
    go_wp2_with (go_at_call 23; refine (has_any _ _ _ (by omega) (by omega) (by decide) (by decide)).mono ?_; (first | rw [h1] | rw [h2]); rintro e w1 ⟨rfl, rfl⟩)
    go_wp2
    rw [Exit.noGoto_normal]
    go_wp2
    go_round
    all_goals first | (simp [intOf]; done) | exact .inr (.inl ⟨by go_num, by rw [P]⟩)
  ·have P := part2 c m
   have B := part_bd c m 1
   obtain ⟨B0, B1⟩ := B
   have B2 := part_bd c m 2
   obtain ⟨B20, B21⟩ := B2
   cases h1 : hasB m 2 <;> cases h2 : hasB c 2
   all_goals
    rw [h1, h2] at P
    simp only [Bool.false_eq_true, false_and, and_false, and_self, if_false, if_true, Int.add_zero] at P
    generalize partN c m 2 = s' at *
    generalize partN c m 1 = s at *
    go_wp2
    go_step3
    go_wp2
    go_step3
    go_wp2_with (go_at_call 23; refine (has_any _ _ _ (by omega) (by omega) (by decide) (by decide)).mono ?_; (first | rw [h1] | rw [h2]); rintro e w1 ⟨rfl, rfl⟩)
    go_wp2
    rw [Exit.noGoto_normal]
    go_wp2
    go_round
    all_goals first | (simp [intOf]; done) | exact .inr (.inr (.inl ⟨by go_num, by rw [P]⟩))
  ·have P := part3 c m
   have B := part_bd c m 2
   obtain ⟨B0, B1⟩ := B
   have B2 := part_bd c m 3
   obtain ⟨B20, B21⟩ := B2
   cases h1 : hasB m 4 <;> cases h2 : hasB c 4
   all_goals
    rw [h1, h2] at P
    simp only [Bool.false_eq_true, false_and, and_false, and_self, if_false, if_true, Int.add_zero] at P
    generalize partN c m 3 = s' at *
    generalize partN c m 2 = s at *
    go_wp2
    go_step3
    go_wp2
    go_step3
    go_wp2_with (go_at_call 23; refine (has_any _ _ _ (by omega) (by omega) (by decide) (by decide)).mono ?_; (first | rw [h1] | rw [h2]); rintro e w1 ⟨rfl, rfl⟩)
    go_wp2
    rw [Exit.noGoto_normal]
    go_wp2
    go_round
    all_goals first | (simp [intOf]; done) | exact .inr (.inr (.inr ⟨by go_num, by rw [P]⟩))
  ·go_wp2_with (fail)
   go_ret
   exact ⟨rfl, (Below.refl _ _).alloc (Nat.le_refl _) _⟩
theorem mask9_0 (m : Int) (w : World) (h2 : 0 ≤ m) (h3 : m ≤ 7) :
  Calls Tryz.prog 112 #[.int .i64 0, .int .i64 m] w fun e w' => e = .returned (.int .i64 (maskN 0 m)) ∧ w = w' := by
 have m1 := mayB_mk (show (0 : Int) ≤ 0 by decide) (by decide)
 have m2 := mayB_mk h2 h3
 obtain rfl | rfl | rfl | rfl | rfl | rfl | rfl | rfl : m = 0 ∨ m = 1 ∨ m = 2 ∨ m = 3 ∨ m = 4 ∨ m = 5 ∨ m = 6 ∨ m = 7 := by omega
 all_goals
  go_enter Tryz.func112, Tryz.ntmps112
  go_wp2_with (go_at_call 111; refine (refMay9 _ _).mono ?_; rintro e w' ⟨rfl, rfl⟩)
  refine wp_loop_rounds 4 ?_
  rw [rounds_succ]; go_wp2
  rw [rounds_succ]; go_wp2
  rw [rounds_succ]; go_wp2
  rw [rounds_succ]; go_wp2
  go_ret
  exact ⟨ret_int (by decide +kernel), rfl⟩
theorem mask9_1 (m : Int) (w : World) (h2 : 0 ≤ m) (h3 : m ≤ 7) :
  Calls Tryz.prog 112 #[.int .i64 1, .int .i64 m] w fun e w' => e = .returned (.int .i64 (maskN 1 m)) ∧ w = w' := by
 have m1 := mayB_mk (show (0 : Int) ≤ 1 by decide) (by decide)
 have m2 := mayB_mk h2 h3
 obtain rfl | rfl | rfl | rfl | rfl | rfl | rfl | rfl : m = 0 ∨ m = 1 ∨ m = 2 ∨ m = 3 ∨ m = 4 ∨ m = 5 ∨ m = 6 ∨ m = 7 := by omega
 all_goals
  go_enter Tryz.func112, Tryz.ntmps112
  go_wp2_with (go_at_call 111; refine (refMay9 _ _).mono ?_; rintro e w' ⟨rfl, rfl⟩)
  refine wp_loop_rounds 4 ?_
  rw [rounds_succ]; go_wp2
  rw [rounds_succ]; go_wp2
  rw [rounds_succ]; go_wp2
  rw [rounds_succ]; go_wp2
  go_ret
  exact ⟨ret_int (by decide +kernel), rfl⟩
theorem mask9_2 (m : Int) (w : World) (h2 : 0 ≤ m) (h3 : m ≤ 7) :
  Calls Tryz.prog 112 #[.int .i64 2, .int .i64 m] w fun e w' => e = .returned (.int .i64 (maskN 2 m)) ∧ w = w' := by
 have m1 := mayB_mk (show (0 : Int) ≤ 2 by decide) (by decide)
 have m2 := mayB_mk h2 h3
 obtain rfl | rfl | rfl | rfl | rfl | rfl | rfl | rfl : m = 0 ∨ m = 1 ∨ m = 2 ∨ m = 3 ∨ m = 4 ∨ m = 5 ∨ m = 6 ∨ m = 7 := by omega
 all_goals
  go_enter Tryz.func112, Tryz.ntmps112
  go_wp2_with (go_at_call 111; refine (refMay9 _ _).mono ?_; rintro e w' ⟨rfl, rfl⟩)
  refine wp_loop_rounds 4 ?_
  rw [rounds_succ]; go_wp2
  rw [rounds_succ]; go_wp2
  rw [rounds_succ]; go_wp2
  rw [rounds_succ]; go_wp2
  go_ret
  exact ⟨ret_int (by decide +kernel), rfl⟩
theorem mask9_3 (m : Int) (w : World) (h2 : 0 ≤ m) (h3 : m ≤ 7) :
  Calls Tryz.prog 112 #[.int .i64 3, .int .i64 m] w fun e w' => e = .returned (.int .i64 (maskN 3 m)) ∧ w = w' := by
 have m1 := mayB_mk (show (0 : Int) ≤ 3 by decide) (by decide)
 have m2 := mayB_mk h2 h3
 obtain rfl | rfl | rfl | rfl | rfl | rfl | rfl | rfl : m = 0 ∨ m = 1 ∨ m = 2 ∨ m = 3 ∨ m = 4 ∨ m = 5 ∨ m = 6 ∨ m = 7 := by omega
 all_goals
  go_enter Tryz.func112, Tryz.ntmps112
  go_wp2_with (go_at_call 111; refine (refMay9 _ _).mono ?_; rintro e w' ⟨rfl, rfl⟩)
  refine wp_loop_rounds 4 ?_
  rw [rounds_succ]; go_wp2
  rw [rounds_succ]; go_wp2
  rw [rounds_succ]; go_wp2
  rw [rounds_succ]; go_wp2
  go_ret
  exact ⟨ret_int (by decide +kernel), rfl⟩
theorem mask9_4 (m : Int) (w : World) (h2 : 0 ≤ m) (h3 : m ≤ 7) :
  Calls Tryz.prog 112 #[.int .i64 4, .int .i64 m] w fun e w' => e = .returned (.int .i64 (maskN 4 m)) ∧ w = w' := by
 have m1 := mayB_mk (show (0 : Int) ≤ 4 by decide) (by decide)
 have m2 := mayB_mk h2 h3
 obtain rfl | rfl | rfl | rfl | rfl | rfl | rfl | rfl : m = 0 ∨ m = 1 ∨ m = 2 ∨ m = 3 ∨ m = 4 ∨ m = 5 ∨ m = 6 ∨ m = 7 := by omega
 all_goals
  go_enter Tryz.func112, Tryz.ntmps112
  go_wp2_with (go_at_call 111; refine (refMay9 _ _).mono ?_; rintro e w' ⟨rfl, rfl⟩)
  refine wp_loop_rounds 4 ?_
  rw [rounds_succ]; go_wp2
  rw [rounds_succ]; go_wp2
  rw [rounds_succ]; go_wp2
  rw [rounds_succ]; go_wp2
  go_ret
  exact ⟨ret_int (by decide +kernel), rfl⟩
theorem mask9_5 (m : Int) (w : World) (h2 : 0 ≤ m) (h3 : m ≤ 7) :
  Calls Tryz.prog 112 #[.int .i64 5, .int .i64 m] w fun e w' => e = .returned (.int .i64 (maskN 5 m)) ∧ w = w' := by
 have m1 := mayB_mk (show (0 : Int) ≤ 5 by decide) (by decide)
 have m2 := mayB_mk h2 h3
 obtain rfl | rfl | rfl | rfl | rfl | rfl | rfl | rfl : m = 0 ∨ m = 1 ∨ m = 2 ∨ m = 3 ∨ m = 4 ∨ m = 5 ∨ m = 6 ∨ m = 7 := by omega
 all_goals
  go_enter Tryz.func112, Tryz.ntmps112
  go_wp2_with (go_at_call 111; refine (refMay9 _ _).mono ?_; rintro e w' ⟨rfl, rfl⟩)
  refine wp_loop_rounds 4 ?_
  rw [rounds_succ]; go_wp2
  rw [rounds_succ]; go_wp2
  rw [rounds_succ]; go_wp2
  rw [rounds_succ]; go_wp2
  go_ret
  exact ⟨ret_int (by decide +kernel), rfl⟩
theorem mask9_6 (m : Int) (w : World) (h2 : 0 ≤ m) (h3 : m ≤ 7) :
  Calls Tryz.prog 112 #[.int .i64 6, .int .i64 m] w fun e w' => e = .returned (.int .i64 (maskN 6 m)) ∧ w = w' := by
 have m1 := mayB_mk (show (0 : Int) ≤ 6 by decide) (by decide)
 have m2 := mayB_mk h2 h3
 obtain rfl | rfl | rfl | rfl | rfl | rfl | rfl | rfl : m = 0 ∨ m = 1 ∨ m = 2 ∨ m = 3 ∨ m = 4 ∨ m = 5 ∨ m = 6 ∨ m = 7 := by omega
 all_goals
  go_enter Tryz.func112, Tryz.ntmps112
  go_wp2_with (go_at_call 111; refine (refMay9 _ _).mono ?_; rintro e w' ⟨rfl, rfl⟩)
  refine wp_loop_rounds 4 ?_
  rw [rounds_succ]; go_wp2
  rw [rounds_succ]; go_wp2
  rw [rounds_succ]; go_wp2
  rw [rounds_succ]; go_wp2
  go_ret
  exact ⟨ret_int (by decide +kernel), rfl⟩
theorem mask9_7 (m : Int) (w : World) (h2 : 0 ≤ m) (h3 : m ≤ 7) :
  Calls Tryz.prog 112 #[.int .i64 7, .int .i64 m] w fun e w' => e = .returned (.int .i64 (maskN 7 m)) ∧ w = w' := by
 have m1 := mayB_mk (show (0 : Int) ≤ 7 by decide) (by decide)
 have m2 := mayB_mk h2 h3
 obtain rfl | rfl | rfl | rfl | rfl | rfl | rfl | rfl : m = 0 ∨ m = 1 ∨ m = 2 ∨ m = 3 ∨ m = 4 ∨ m = 5 ∨ m = 6 ∨ m = 7 := by omega
 all_goals
  go_enter Tryz.func112, Tryz.ntmps112
  go_wp2_with (go_at_call 111; refine (refMay9 _ _).mono ?_; rintro e w' ⟨rfl, rfl⟩)
  refine wp_loop_rounds 4 ?_
  rw [rounds_succ]; go_wp2
  rw [rounds_succ]; go_wp2
  rw [rounds_succ]; go_wp2
  rw [rounds_succ]; go_wp2
  go_ret
  exact ⟨ret_int (by decide +kernel), rfl⟩
theorem mask9 (r m : Int) (w : World) (h0 : 0 ≤ r) (h1 : r ≤ 7) (h2 : 0 ≤ m) (h3 : m ≤ 7) :
  Calls Tryz.prog 112 #[.int .i64 r, .int .i64 m] w fun e w' => e = .returned (.int .i64 (maskN r m)) ∧ w = w' := by
 obtain rfl | rfl | rfl | rfl | rfl | rfl | rfl | rfl : r = 0 ∨ r = 1 ∨ r = 2 ∨ r = 3 ∨ r = 4 ∨ r = 5 ∨ r = 6 ∨ r = 7 := by omega
 ·exact mask9_0 m w h2 h3
 ·exact mask9_1 m w h2 h3
 ·exact mask9_2 m w h2 h3
 ·exact mask9_3 m w h2 h3
 ·exact mask9_4 m w h2 h3
 ·exact mask9_5 m w h2 h3
 ·exact mask9_6 m w h2 h3
 ·exact mask9_7 m w h2 h3
abbrev zcap : Value := capV 0 0 0 0 0 0 0 0
theorem mayB_of {m : Int} (h : mayB m = true) : 0 ≤ m ∧ m ≤ 7 := of_decide_eq_true h
theorem cap_c {a b c d e f g h : Int} (hx : capB a b c d e f g h = true) (ha : a = 3 ∨ a = 8) : 0 ≤ c ∧ c ≤ 7 := by
 rcases ha with rfl | rfl
 ·simp [capB] at hx; omega
 ·simp [capB] at hx; exact mayB_of hx.1.1.2
theorem mask_key : ∀ r : Nat, r < 8 → ∀ m : Nat, m < 8 → 0 ≤ maskN r m ∧ maskN r m ≤ 7 := by decide +kernel
theorem mask_bd {r m : Int} (h0 : 0 ≤ r) (h1 : r ≤ 7) (h2 : 0 ≤ m) (h3 : m ≤ 7) : 0 ≤ maskN r m ∧ maskN r m ≤ 7 := by
 obtain ⟨a, rfl⟩ := Int.eq_ofNat_of_zero_le h0
 obtain ⟨b, rfl⟩ := Int.eq_ofNat_of_zero_le h2
 exact mask_key a (by omega) b (by omega)
theorem copy_bad1 (a b c d e f g h m : Int) (W : World) (hT : TabG W) (e1 : e ≤ 9223372036854775807) (hx : capB a b c d e f g h = false) :
  Calls Tryz.prog 63 #[capV a b c d e f g h, .int .i64 m] W fun r W' => r = .returned (.tuple #[zcap, .int .i64 2]) ∧ Below W.heap.size W W' := by
 have HX := hid hx
 clear hx
 all_goals
  go_enter Tryz.func63, Tryz.ntmps63
  go_wp2_with (first
   | (go_at_call 15; refine (capMay _ _ _ _ _ _ _ _ _ (by exact hT.call (by repeat (first | with_reducible exact Below.refl _ _ | with_reducible assumption | with_reducible refine below_drewN ?_ _ | with_reducible refine Below.drew ?_ | with_reducible refine bal ?_ _ | with_reducible refine bgo ?_ (by with_reducible assumption) | refine Below.setCell ?_ (by first | exact Nat.le_refl _ | (simp; done) | (simp; omega)) _))) e1).mono ?_; rw [HX.out]; rintro r w1 ⟨rfl, hb1⟩; obtain ⟨hc1, hf1⟩ := bcell hb1; have hz1 : W.heap.size + 1 < w1.heap.size := (by have := hb1.size; simp at this; omega); have hz0 : W.heap.size < w1.heap.size := (by omega))
   | (go_at_call 60; refine (may_any _ _).mono ?_; rw [HM.out]; rintro r w2 ⟨rfl, rfl⟩))
  all_goals
   exact bodyPost_ret (v := .tuple #[zcap, .int .i64 2]) (by simp [results, Tryz.results63, go_sem, hc1, hz1]) rfl ⟨rfl, (by repeat (first | with_reducible exact Below.refl _ _ | with_reducible assumption | with_reducible refine below_drewN ?_ _ | with_reducible refine Below.drew ?_ | with_reducible refine bal ?_ _ | with_reducible refine bgo ?_ (by with_reducible assumption) | refine Below.setCell ?_ (by first | exact Nat.le_refl _ | (simp; done) | (simp; omega)) _))⟩
theorem copy_bad2 (a b c d e f g h m : Int) (W : World) (hT : TabG W) (e1 : e ≤ 9223372036854775807) (hx : capB a b c d e f g h = true) (hm : mayB m = false) :
  Calls Tryz.prog 63 #[capV a b c d e f g h, .int .i64 m] W fun r W' => r = .returned (.tuple #[zcap, .int .i64 2]) ∧ Below W.heap.size W W' := by
 have HX := hid hx
 have HM := hid hm
 clear hx hm
 all_goals
  go_enter Tryz.func63, Tryz.ntmps63
  go_wp2_with (first
   | (go_at_call 15; refine (capMay _ _ _ _ _ _ _ _ _ (by exact hT.call (by repeat (first | with_reducible exact Below.refl _ _ | with_reducible assumption | with_reducible refine below_drewN ?_ _ | with_reducible refine Below.drew ?_ | with_reducible refine bal ?_ _ | with_reducible refine bgo ?_ (by with_reducible assumption) | refine Below.setCell ?_ (by first | exact Nat.le_refl _ | (simp; done) | (simp; omega)) _))) e1).mono ?_; rw [HX.out]; rintro r w1 ⟨rfl, hb1⟩; obtain ⟨hc1, hf1⟩ := bcell hb1; have hz1 : W.heap.size + 1 < w1.heap.size := (by have := hb1.size; simp at this; omega); have hz0 : W.heap.size < w1.heap.size := (by omega))
   | (go_at_call 60; refine (may_any _ _).mono ?_; rw [HM.out]; rintro r w2 ⟨rfl, rfl⟩))
  all_goals
   exact bodyPost_ret (v := .tuple #[zcap, .int .i64 2]) (by simp [results, Tryz.results63, go_sem, hc1, hz1]) rfl ⟨rfl, (by repeat (first | with_reducible exact Below.refl _ _ | with_reducible assumption | with_reducible refine below_drewN ?_ _ | with_reducible refine Below.drew ?_ | with_reducible refine bal ?_ _ | with_reducible refine bgo ?_ (by with_reducible assumption) | refine Below.setCell ?_ (by first | exact Nat.le_refl _ | (simp; done) | (simp; omega)) _))⟩
theorem copy_k0 (a b c d e f g h m : Int) (W : World) (hT : TabG W) (e1 : e ≤ 9223372036854775807) (hx : capB a b c d e f g h = true) (hm : mayB m = true) (ha : a = 0) :
  Calls Tryz.prog 63 #[capV a b c d e f g h, .int .i64 m] W fun r W' => r = .returned (.tuple #[zcap, .int .i64 10]) ∧ Below W.heap.size W W' := by
 have HX := hid hx
 have HM := hid hm
 clear hx hm
 subst ha
 all_goals
  go_enter Tryz.func63, Tryz.ntmps63
  go_wp2_with (first
   | (go_at_call 15; refine (capMay _ _ _ _ _ _ _ _ _ (by exact hT.call (by repeat (first | with_reducible exact Below.refl _ _ | with_reducible assumption | with_reducible refine below_drewN ?_ _ | with_reducible refine Below.drew ?_ | with_reducible refine bal ?_ _ | with_reducible refine bgo ?_ (by with_reducible assumption) | refine Below.setCell ?_ (by first | exact Nat.le_refl _ | (simp; done) | (simp; omega)) _))) e1).mono ?_; rw [HX.out]; rintro r w1 ⟨rfl, hb1⟩; obtain ⟨hc1, hf1⟩ := bcell hb1; have hz1 : W.heap.size + 1 < w1.heap.size := (by have := hb1.size; simp at this; omega); have hz0 : W.heap.size < w1.heap.size := (by omega))
   | (go_at_call 60; refine (may_any _ _).mono ?_; rw [HM.out]; rintro r w2 ⟨rfl, rfl⟩))
  all_goals
   exact bodyPost_ret (v := .tuple #[zcap, .int .i64 10]) (by simp [results, Tryz.results63, go_sem, hc1, hz1]) rfl ⟨rfl, (by repeat (first | with_reducible exact Below.refl _ _ | with_reducible assumption | with_reducible refine below_drewN ?_ _ | with_reducible refine Below.drew ?_ | with_reducible refine bal ?_ _ | with_reducible refine bgo ?_ (by with_reducible assumption) | refine Below.setCell ?_ (by first | exact Nat.le_refl _ | (simp; done) | (simp; omega)) _))⟩
theorem copy_k1 (a b c d e f g h m : Int) (W : World) (hT : TabG W) (e1 : e ≤ 9223372036854775807) (hx : capB a b c d e f g h = true) (hm : mayB m = true) (ha : a = 1 ∨ a = 7) :
  Calls Tryz.prog 63 #[capV a b c d e f g h, .int .i64 m] W fun r W' => r = .returned (.tuple #[zcap, .int .i64 8]) ∧ Below W.heap.size W W' := by
 have HX := hid hx
 have HM := hid hm
 clear hx hm
 rcases ha with rfl | rfl
 all_goals
  go_enter Tryz.func63, Tryz.ntmps63
  go_wp2_with (first
   | (go_at_call 15; refine (capMay _ _ _ _ _ _ _ _ _ (by exact hT.call (by repeat (first | with_reducible exact Below.refl _ _ | with_reducible assumption | with_reducible refine below_drewN ?_ _ | with_reducible refine Below.drew ?_ | with_reducible refine bal ?_ _ | with_reducible refine bgo ?_ (by with_reducible assumption) | refine Below.setCell ?_ (by first | exact Nat.le_refl _ | (simp; done) | (simp; omega)) _))) e1).mono ?_; rw [HX.out]; rintro r w1 ⟨rfl, hb1⟩; obtain ⟨hc1, hf1⟩ := bcell hb1; have hz1 : W.heap.size + 1 < w1.heap.size := (by have := hb1.size; simp at this; omega); have hz0 : W.heap.size < w1.heap.size := (by omega))
   | (go_at_call 60; refine (may_any _ _).mono ?_; rw [HM.out]; rintro r w2 ⟨rfl, rfl⟩))
  all_goals
   exact bodyPost_ret (v := .tuple #[zcap, .int .i64 8]) (by simp [results, Tryz.results63, go_sem, hc1, hz1]) rfl ⟨rfl, (by repeat (first | with_reducible exact Below.refl _ _ | with_reducible assumption | with_reducible refine below_drewN ?_ _ | with_reducible refine Below.drew ?_ | with_reducible refine bal ?_ _ | with_reducible refine bgo ?_ (by with_reducible assumption) | refine Below.setCell ?_ (by first | exact Nat.le_refl _ | (simp; done) | (simp; omega)) _))⟩
theorem copy_rest (a b c d e f g h m : Int) (W : World) (hT : TabG W) (e1 : e ≤ 9223372036854775807) (hx : capB a b c d e f g h = true) (hm : mayB m = true) (ha : a = 2 ∨ a = 4 ∨ a = 5 ∨ a = 6 ∨ a = 9) :
  Calls Tryz.prog 63 #[capV a b c d e f g h, .int .i64 m] W fun r W' => r = .returned (.tuple #[capV a b c d e f g h, .int .i64 0]) ∧ Below W.heap.size W W' := by
 have HX := hid hx
 have HM := hid hm
 clear hx hm
 rcases ha with rfl | rfl | rfl | rfl | rfl
 all_goals
  go_enter Tryz.func63, Tryz.ntmps63
  go_wp2_with (first
   | (go_at_call 15; refine (capMay _ _ _ _ _ _ _ _ _ (by exact hT.call (by repeat (first | with_reducible exact Below.refl _ _ | with_reducible assumption | with_reducible refine below_drewN ?_ _ | with_reducible refine Below.drew ?_ | with_reducible refine bal ?_ _ | with_reducible refine bgo ?_ (by with_reducible assumption) | refine Below.setCell ?_ (by first | exact Nat.le_refl _ | (simp; done) | (simp; omega)) _))) e1).mono ?_; rw [HX.out]; rintro r w1 ⟨rfl, hb1⟩; obtain ⟨hc1, hf1⟩ := bcell hb1; have hz1 : W.heap.size + 1 < w1.heap.size := (by have := hb1.size; simp at this; omega); have hz0 : W.heap.size < w1.heap.size := (by omega))
   | (go_at_call 60; refine (may_any _ _).mono ?_; rw [HM.out]; rintro r w2 ⟨rfl, rfl⟩))
  all_goals
   exact bodyPost_ret (v := .tuple #[capV _ b c d e f g h, .int .i64 0]) (by simp [results, Tryz.results63, go_sem, hc1, hz1]) rfl ⟨rfl, (by repeat (first | with_reducible exact Below.refl _ _ | with_reducible assumption | with_reducible refine below_drewN ?_ _ | with_reducible refine Below.drew ?_ | with_reducible refine bal ?_ _ | with_reducible refine bgo ?_ (by with_reducible assumption) | refine Below.setCell ?_ (by first | exact Nat.le_refl _ | (simp; done) | (simp; omega)) _))⟩
theorem copy_k3n (a b c d e f g h m : Int) (W : World) (hT : TabG W) (e1 : e ≤ 9223372036854775807) (hx : capB a b c d e f g h = true) (hm : mayB m = true) (ha : a = 3) (hn : maskN c m = 0) :
  Calls Tryz.prog 63 #[capV a b c d e f g h, .int .i64 m] W fun r W' => r = .returned (.tuple #[zcap, .int .i64 9]) ∧ Below W.heap.size W W' := by
 obtain ⟨c0, c1⟩ := cap_c hx (.inl ha)
 obtain ⟨m0, m1⟩ := mayB_of hm
 have HX := hid hx
 have HM := hid hm
 clear hx hm
 subst ha
 have HN := hid hn
 clear hn
 all_goals
  go_enter Tryz.func63, Tryz.ntmps63
  go_wp2_with (first
   | (go_at_call 15; refine (capMay _ _ _ _ _ _ _ _ _ (by exact hT.call (by repeat (first | with_reducible exact Below.refl _ _ | with_reducible assumption | with_reducible refine below_drewN ?_ _ | with_reducible refine Below.drew ?_ | with_reducible refine bal ?_ _ | with_reducible refine bgo ?_ (by with_reducible assumption) | refine Below.setCell ?_ (by first | exact Nat.le_refl _ | (simp; done) | (simp; omega)) _))) e1).mono ?_; rw [HX.out]; rintro r w1 ⟨rfl, hb1⟩; obtain ⟨hc1, hf1⟩ := bcell hb1; have hz1 : W.heap.size + 1 < w1.heap.size := (by have := hb1.size; simp at this; omega); have hz0 : W.heap.size < w1.heap.size := (by omega))
   | (go_at_call 60; refine (may_any _ _).mono ?_; rw [HM.out]; rintro r w2 ⟨rfl, rfl⟩)
   | (go_at_call 99; refine (kept_any _ _ _ _ _ _ _ _ _ _ c0 c1 m0 m1).mono ?_; rw [HN.out]; rintro r w3 ⟨rfl, hb3⟩; obtain ⟨hc3, hf3⟩ := bcell hb3; have hy3 := hb3.size; simp at hy3; have hz30 : W.heap.size < w3.heap.size := (by omega); have hz31 : W.heap.size + 1 < w3.heap.size := (by omega); have hz32 : w1.heap.size < w3.heap.size := (by omega); have hn1 : W.heap.size + 1 ≠ w1.heap.size := (by omega); have hn2 : w1.heap.size ≠ W.heap.size + 1 := (by omega); clear hy3))
  all_goals
   exact bodyPost_ret (v := .tuple #[zcap, .int .i64 9]) (by simp [results, Tryz.results63, go_sem, hc1, hz1, hc3, hz0, hz31, hz32, hn1, hn2]) rfl ⟨rfl, (by repeat (first | with_reducible exact Below.refl _ _ | with_reducible assumption | with_reducible refine below_drewN ?_ _ | with_reducible refine Below.drew ?_ | with_reducible refine bal ?_ _ | with_reducible refine bgo ?_ (by with_reducible assumption) | refine Below.setCell ?_ (by first | exact Nat.le_refl _ | (simp; done) | (simp; omega)) _))⟩
theorem copy_k3y (a b c d e f g h m : Int) (W : World) (hT : TabG W) (e1 : e ≤ 9223372036854775807) (hx : capB a b c d e f g h = true) (hm : mayB m = true) (ha : a = 3) (hn : maskN c m ≠ 0) :
  Calls Tryz.prog 63 #[capV a b c d e f g h, .int .i64 m] W fun r W' => r = .returned (.tuple #[capV a b (maskN c m) d e f 0 0, .int .i64 0]) ∧ Below W.heap.size W W' := by
 obtain ⟨c0, c1⟩ := cap_c hx (.inl ha)
 obtain ⟨m0, m1⟩ := mayB_of hm
 have HX := hid hx
 have HM := hid hm
 clear hx hm
 subst ha
 have hk := mask_bd c0 c1 m0 m1
 generalize hq : maskN c m = q at *
 have HN := hid hq
 clear hq
 have hn' : (q == 0) = false := beq_eq_false_iff_ne.2 hn
 clear hn
 all_goals
  go_enter Tryz.func63, Tryz.ntmps63
  go_wp2_with (first
   | (go_at_call 15; refine (capMay _ _ _ _ _ _ _ _ _ (by exact hT.call (by repeat (first | with_reducible exact Below.refl _ _ | with_reducible assumption | with_reducible refine below_drewN ?_ _ | with_reducible refine Below.drew ?_ | with_reducible refine bal ?_ _ | with_reducible refine bgo ?_ (by with_reducible assumption) | refine Below.setCell ?_ (by first | exact Nat.le_refl _ | (simp; done) | (simp; omega)) _))) e1).mono ?_; rw [HX.out]; rintro r w1 ⟨rfl, hb1⟩; obtain ⟨hc1, hf1⟩ := bcell hb1; have hz1 : W.heap.size + 1 < w1.heap.size := (by have := hb1.size; simp at this; omega); have hz0 : W.heap.size < w1.heap.size := (by omega))
   | (go_at_call 60; refine (may_any _ _).mono ?_; rw [HM.out]; rintro r w2 ⟨rfl, rfl⟩)
   | (go_at_call 99; refine (kept_any _ _ _ _ _ _ _ _ _ _ c0 c1 m0 m1).mono ?_; rw [HN.out]; rintro r w3 ⟨rfl, hb3⟩; obtain ⟨hc3, hf3⟩ := bcell hb3; have hy3 := hb3.size; simp at hy3; have hz30 : W.heap.size < w3.heap.size := (by omega); have hz31 : W.heap.size + 1 < w3.heap.size := (by omega); have hz32 : w1.heap.size < w3.heap.size := (by omega); have hn1 : W.heap.size + 1 ≠ w1.heap.size := (by omega); have hn2 : w1.heap.size ≠ W.heap.size + 1 := (by omega); clear hy3))
  all_goals
   exact bodyPost_ret (v := .tuple #[capV _ b q d e f 0 0, .int .i64 0]) (by simp [results, Tryz.results63, go_sem, hc1, hz1, hc3, hz0, hz31, hz32, hn1, hn2]) rfl ⟨rfl, (by repeat (first | with_reducible exact Below.refl _ _ | with_reducible assumption | with_reducible refine below_drewN ?_ _ | with_reducible refine Below.drew ?_ | with_reducible refine bal ?_ _ | with_reducible refine bgo ?_ (by with_reducible assumption) | refine Below.setCell ?_ (by first | exact Nat.le_refl _ | (simp; done) | (simp; omega)) _))⟩
theorem copy_k8 (a b c d e f g h m : Int) (W : World) (hT : TabG W) (e1 : e ≤ 9223372036854775807) (hx : capB a b c d e f g h = true) (hm : mayB m = true) (ha : a = 8) :
  Calls Tryz.prog 63 #[capV a b c d e f g h, .int .i64 m] W fun r W' => r = .returned (.tuple #[capV a b (maskN c m) d e f g h, .int .i64 0]) ∧ Below W.heap.size W W' := by
 obtain ⟨c0, c1⟩ := cap_c hx (.inr ha)
 obtain ⟨m0, m1⟩ := mayB_of hm
 have HX := hid hx
 have HM := hid hm
 clear hx hm
 subst ha
 generalize hq : maskN c m = q at *
 have HN := hid hq
 clear hq
 all_goals
  go_enter Tryz.func63, Tryz.ntmps63
  go_wp2_with (first
   | (go_at_call 15; refine (capMay _ _ _ _ _ _ _ _ _ (by exact hT.call (by repeat (first | with_reducible exact Below.refl _ _ | with_reducible assumption | with_reducible refine below_drewN ?_ _ | with_reducible refine Below.drew ?_ | with_reducible refine bal ?_ _ | with_reducible refine bgo ?_ (by with_reducible assumption) | refine Below.setCell ?_ (by first | exact Nat.le_refl _ | (simp; done) | (simp; omega)) _))) e1).mono ?_; rw [HX.out]; rintro r w1 ⟨rfl, hb1⟩; obtain ⟨hc1, hf1⟩ := bcell hb1; have hz1 : W.heap.size + 1 < w1.heap.size := (by have := hb1.size; simp at this; omega); have hz0 : W.heap.size < w1.heap.size := (by omega))
   | (go_at_call 60; refine (may_any _ _).mono ?_; rw [HM.out]; rintro r w2 ⟨rfl, rfl⟩)
   | (go_at_call 99; refine (kept_any _ _ _ _ _ _ _ _ _ _ c0 c1 m0 m1).mono ?_; rw [HN.out]; rintro r w3 ⟨rfl, hb3⟩; obtain ⟨hc3, hf3⟩ := bcell hb3; have hy3 := hb3.size; simp at hy3; have hz30 : W.heap.size < w3.heap.size := (by omega); have hz31 : W.heap.size + 1 < w3.heap.size := (by omega); have hz32 : w1.heap.size < w3.heap.size := (by omega); have hn1 : W.heap.size + 1 ≠ w1.heap.size := (by omega); have hn2 : w1.heap.size ≠ W.heap.size + 1 := (by omega); clear hy3))
  all_goals
   exact bodyPost_ret (v := .tuple #[capV _ b q d e f g h, .int .i64 0]) (by simp [results, Tryz.results63, go_sem, hc1, hz1, hc3, hz0, hz31, hz32, hn1, hn2]) rfl ⟨rfl, (by repeat (first | with_reducible exact Below.refl _ _ | with_reducible assumption | with_reducible refine below_drewN ?_ _ | with_reducible refine Below.drew ?_ | with_reducible refine bal ?_ _ | with_reducible refine bgo ?_ (by with_reducible assumption) | refine Below.setCell ?_ (by first | exact Nat.le_refl _ | (simp; done) | (simp; omega)) _))⟩
end CX
end
section
namespace Wd
open Go.ChangeShapes Go.WideShapes Go.ChangeAt Go.RowKit
def insideB (a n : Int) : Bool := decide (0 ≤ a ∧ a < 64 ∧ 1 ≤ n ∧ n ≤ 64 - a)
theorem ret_bool {a b : Bool} (h : a = b) : Ending.returned (.bool a) = .returned (.bool b) := by rw [h]
theorem ret_int {k : IntKind} {a b : Int} (h : a = b) : Ending.returned (.int k a) = .returned (.int k b) := by rw [h]
def onesN (n : Int) : Int := if n ≤ 0 then 0 else if 64 ≤ n then 18446744073709551615 else 2 ^ n.toNat - 1
theorem wrap_pow (k : Nat) (h : k < 64) : IntKind.u64.wrap (IntKind.u64.wrap (2 ^ k) - 1) = 2 ^ k - 1 := by
 have h1 : (2 : Int) ^ k < 18446744073709551616 := by
  have : (2 : Nat) ^ k < 2 ^ 64 := Nat.pow_lt_pow_right (by omega) h
  have e : ((2 ^ k : Nat) : Int) = (2 : Int) ^ k := by simp
  omega
 have h2 : (1 : Int) ≤ 2 ^ k := by
  have : 1 ≤ (2 : Nat) ^ k := Nat.one_le_two_pow
  have e : ((2 ^ k : Nat) : Int) = (2 : Int) ^ k := by simp
  omega
 rw [IntWalk.u64_in (2 ^ k) (by omega), IntWalk.u64_in _ (by omega)]
theorem same_q {P : Program} {f : FuncId} {args : Array Value} {w : World} {v : Value} (h : Calls P f args w fun e w' => e = .returned v ∧ w = w') :
  Calls P f args w fun e w' => e = .returned v ∧ w' = w := h.mono fun _ _ ⟨a, b⟩ => ⟨a, b.symm⟩
theorem ones_any (n : Int) (w : World) :
  Calls Tryz.prog 120 #[.int .i64 n] w fun e w' => e = .returned (.int .u64 (onesN n)) ∧ w = w' := by
 go_enter Tryz.func120, Tryz.ntmps120
 go_wp2
 all_goals go_ret
 all_goals refine ⟨ret_int ?_, rfl⟩
 ·unfold onesN; rw [if_pos ‹_›]
 ·unfold onesN; rw [if_neg (by omega), if_pos ‹_›]
 ·unfold onesN; rw [if_neg (by omega), if_neg (by omega)]; exact wrap_pow _ (by omega)
def fieldN (v a n : Int) : Int := v / 2 ^ a.toNat % 2 ^ n.toNat
theorem ones_toNat (n : Int) (h1 : 1 ≤ n) (h2 : n ≤ 64) : onesN n = ((2 ^ n.toNat - 1 : Nat) : Int) := by
 have hp : 1 ≤ (2 : Nat) ^ n.toNat := Nat.one_le_two_pow
 have e : ((2 ^ n.toNat : Nat) : Int) = (2 : Int) ^ n.toNat := by simp
 unfold onesN
 rw [if_neg (by omega)]
 by_cases h : 64 ≤ n
 ·obtain rfl : n = 64 := by omega
  simp
 ·rw [if_neg h]; omega
theorem and_ones (x : Nat) (n : Int) (hx : x < 18446744073709551616) (h1 : 1 ≤ n) (h2 : n ≤ 64) : bits BinOp.and IntKind.u64 (x : Int) (onesN n) = ((x % 2 ^ n.toNat : Nat) : Int) := by
 have hlt : 2 ^ n.toNat - 1 < 18446744073709551616 := by
  have : (2 : Nat) ^ n.toNat ≤ 2 ^ 64 := Nat.pow_le_pow_right (by decide) (by omega)
  have e : (2 : Nat) ^ 64 = 18446744073709551616 := by decide
  have hp : 1 ≤ (2 : Nat) ^ n.toNat := Nat.one_le_two_pow
  omega
 rw [ones_toNat n h1 h2, u64_and_nat x _ hx hlt, Nat.and_two_pow_sub_one_eq_mod]
end Wd
end
end Go.Proofs.YtchjfeafkmpmbaaGreatDoor
