/- The law WalkFinds. -/
import Derived.Test.YticoddjidibecaaWa8
namespace Go.Proofs.Yticoddjidibecaa
set_option linter.unusedVariables false
set_option linter.unusedSimpArgs false
open Go.ChangeShapes Go.WideShapes Go.ChangeAt Go.RowKit Go.Shelf

/-- Two tables and a leaf at page P. -/
def memF (P : Int) (x : Int) : Nat → Int := updM (updM (updM (fun _ => 0) (P / 64).toNat 257) (8 + (P / 8 % 8).toNat) 513) (16 + (P % 8).toNat) x
theorem nextC_257 : nextC 5 257 = 0 := by decide +kernel
theorem nextC_513 : nextC 5 513 = 0 := by decide +kernel
theorem nextC_0 : nextC 5 0 = 6 := by decide +kernel
theorem leafC_0 : leafC 5 0 = 6 := by decide +kernel
theorem finds_walk (P q : Int) (p0 : 0 ≤ P) (p1 : P < 512) (q0 : 0 ≤ q) (q1 : q < 512) (x : Nat) (hx : leafC 5 x = 0) :
    (q = P → walkC 5 (memF P x) 0 q = 0 ∧ leafW (memF P x) (atF 5 (memF P x) 0 q 3).1 = x) ∧ (q ≠ P → walkC 5 (memF P x) 0 q = 6) := by
  have e1 : memF P x (8 * 0 + (q / 64).toNat) = if q / 64 = P / 64 then 257 else 0 := by
    unfold memF updM
    rw [if_neg (by omega), if_neg (by omega)]
    by_cases h : q / 64 = P / 64
    · rw [if_pos h, if_pos (by omega)]
    · rw [if_neg h, if_neg (by omega)]
  have e2 : memF P x (8 * 1 + (q / 8 % 8).toNat) = if q / 8 % 8 = P / 8 % 8 then 513 else 0 := by
    unfold memF updM
    rw [if_neg (by omega)]
    by_cases h : q / 8 % 8 = P / 8 % 8
    · rw [if_pos h, if_pos (by omega)]
    · rw [if_neg h, if_neg (by omega), if_neg (by omega)]
  have e3 : memF P x (16 + (q % 8).toNat) = if q % 8 = P % 8 then (x : Int) else 0 := by
    unfold memF updM
    by_cases h : q % 8 = P % 8
    · rw [if_pos h, if_pos (by omega)]
    · rw [if_neg h, if_neg (by omega), if_neg (by omega), if_neg (by omega)]
  have ha : atF 5 (memF P x) 0 q 3 = if q / 64 = P / 64 then (if q / 8 % 8 = P / 8 % 8 then (128 + 8 * (q % 8), 0) else (0, 6)) else (0, 6) := by
    unfold atF
    rw [if_pos ⟨by decide, by decide, q0, q1, by decide, by decide⟩]
    show (if nextC 5 (memF P x (8 * 0 + (q / 64).toNat)).toNat = 0 then (if nextC 5 (memF P x (8 * ((memF P x (8 * 0 + (q / 64).toNat)).toNat / 256 % 64) + (q / 8 % 8).toNat)).toNat = 0 then ((64 * (((memF P x (8 * ((memF P x (8 * 0 + (q / 64).toNat)).toNat / 256 % 64) + (q / 8 % 8).toNat)).toNat / 256 % 64 : Nat) : Int) + 8 * (q % 8), 0) : Int × Int) else (0, nextC 5 (memF P x (8 * ((memF P x (8 * 0 + (q / 64).toNat)).toNat / 256 % 64) + (q / 8 % 8).toNat)).toNat)) else (0, nextC 5 (memF P x (8 * 0 + (q / 64).toNat)).toNat)) = _
    rw [e1]
    by_cases h1 : q / 64 = P / 64
    · rw [if_pos h1, if_pos h1]
      rw [if_pos (show nextC 5 (257 : Int).toNat = 0 from nextC_257), show (257 : Int).toNat / 256 % 64 = 1 by decide, e2]
      by_cases h2 : q / 8 % 8 = P / 8 % 8
      · rw [if_pos h2, if_pos h2, if_pos (show nextC 5 (513 : Int).toNat = 0 from nextC_513), show (513 : Int).toNat / 256 % 64 = 2 by decide]
        rfl
      · rw [if_neg h2, if_neg h2, show nextC 5 (0 : Int).toNat = 6 from nextC_0, if_neg (by decide)]
    · rw [if_neg h1, if_neg h1, show nextC 5 (0 : Int).toNat = 6 from nextC_0, if_neg (by decide)]
  have hl : leafW (memF P x) (128 + 8 * (q % 8)) = (if q % 8 = P % 8 then (x : Int) else 0).toNat := by
    unfold leafW
    rw [show ((128 + 8 * (q % 8)) / 8).toNat = 16 + (q % 8).toNat by omega, e3]
  refine ⟨fun h => ?_, fun h => ?_⟩
  · subst h
    rw [if_pos rfl, if_pos rfl] at ha
    rw [if_pos rfl] at hl
    unfold walkC
    rw [ha]
    simp only [if_true, hl, Int.toNat_natCast]
    exact ⟨hx, trivial⟩
  · unfold walkC
    rw [ha]
    by_cases h1 : q / 64 = P / 64
    · by_cases h2 : q / 8 % 8 = P / 8 % 8
      · have h3 : q % 8 ≠ P % 8 := by omega
        rw [if_pos h1, if_pos h2]
        simp only [if_true, hl]
        rw [if_neg h3]
        exact leafC_0
      · rw [if_pos h1, if_neg h2]; rfl
    · rw [if_neg h1]; rfl
theorem leaf_key : ∀ f : Nat, f < 5 → ∀ r : Nat, r < 3 → leafC 5 (7 + 4 * r + 256 * f) = 0 ∧ (7 + 4 * r + 256 * f).testBit 1 = true ∧ (7 + 4 * r + 256 * f).testBit 2 = (r % 2 == 0) ∧ (7 + 4 * r + 256 * f).testBit 3 = decide (1 ≤ r) ∧ (7 + 4 * r + 256 * f) / 256 % 64 = f := by decide +kernel
set_option maxRecDepth 100000 in
set_option maxHeartbeats 4000000 in
theorem finds_same0 {W : World} (a0 a1 a2 a3 : Int) (b0 : I64 a0) (b1 : I64 a1) (b2 : I64 a2) (b3 : I64 a3) (P o : Int) (f : Nat) (hP : lowI a0 512 = P) (ho : lowI a1 512 = o) (hf : lowI a2 5 = f) (hr : lowI a3 3 = 0) (p0 : 0 ≤ P) (p1 : P < 512) (o0 : 0 ≤ o) (o1 : o < 512) (f1 : f < 5) (hop : o = P) :
    Calls Try.prog 4 #[.int .i64 a0, .int .i64 a1, .int .i64 a2, .int .i64 a3] W fun e w' => e = .returned (.bool true) ∧ Below W.heap.size W w' := by
  have b0 := Lib.hid (show -9223372036854775808 ≤ a0 ∧ a0 ≤ 9223372036854775807 from b0)
  have b1 := Lib.hid (show -9223372036854775808 ≤ a1 ∧ a1 ≤ 9223372036854775807 from b1)
  have b2 := Lib.hid (show -9223372036854775808 ≤ a2 ∧ a2 ≤ 9223372036854775807 from b2)
  have b3 := Lib.hid (show -9223372036854775808 ≤ a3 ∧ a3 ≤ 9223372036854775807 from b3)
  have ho : lowI a1 512 = P := ho.trans hop
  clear hop o0 o1
  have HR := Lib.hid hr
  have HP := Lib.hid hP
  have HO := Lib.hid ho
  have HF := Lib.hid hf
  have f1' : (f : Int) < 5 := by omega
  clear hr hP ho hf
  obtain ⟨k1, k2, k3, k4, k5⟩ := leaf_key f f1 0 (by decide)
  obtain ⟨x, hx⟩ : ∃ x, 7 + 4 * 0 + 256 * f = x := ⟨_, rfl⟩
  rw [hx] at k1 k2 k3 k4 k5
  have HW1 := Lib.hid ((finds_walk P P p0 p1 p0 p1 x k1).1 rfl)
  have hE : entW x = .agg #[.bool true, .bool true, .bool true, .bool false, .int .i64 f] := by unfold entW; rw [k2, k3, k4, k5]; rfl
  have HV := Lib.hid (show 7 + 256 * (f : Int) = (x : Int) by omega)
  have HE := Lib.hid hE
  have hv257 : WordI 257 := ⟨by decide, by decide⟩
  have hv513 : WordI 513 := ⟨by decide, by decide⟩
  have HVX : Hid (WordI (x : Int)) := Lib.hid ⟨by omega, by omega⟩
  clear k1 k2 k3 k4 k5 hx hE
  have t1 : Hid ((P / 64).toNat < 8 * 5) := Lib.hid (by omega)
  have t2 : Hid (8 + (P / 8 % 8).toNat < 8 * 5) := Lib.hid (by omega)
  have t3 : Hid (16 + (P % 8).toNat < 8 * 5) := Lib.hid (by omega)
  go_enter Try.func4, Try.ntmps4
  go_wp2_with (first
    | (go_at_call 16; with_reducible refine (low_any a0 512 _ b0.out (by decide) (by decide)).mono ?_; rw [HP.out]; rintro e w4 ⟨rfl, rfl⟩)
    | (go_at_call 16; with_reducible refine (low_any a1 512 _ b1.out (by decide) (by decide)).mono ?_; rw [HO.out]; rintro e w5 ⟨rfl, rfl⟩)
    | (go_at_call 16; with_reducible refine (low_any a2 5 _ b2.out (by decide) (by decide)).mono ?_; rw [HF.out]; rintro e w5 ⟨rfl, rfl⟩)
    | (go_at_call 16; with_reducible refine (low_any a3 3 _ b3.out (by decide) (by decide)).mono ?_; rw [HR.out]; rintro e w5 ⟨rfl, rfl⟩))
  refine (new_ok _ 5 (by decide) (by decide)).mono ?_
  rintro e w1 ⟨b, g, c, rfl, hm1, hb1, hg1, hb⟩
  have lg1 := hm1.lg
  have HM1 := Lib.hid hm1
  clear hm1
  go_wp2_with (first
    | (go_at_call 18; with_reducible refine (store_at w1 b g 5 c _ _ (P / 64).toNat 257 HM1.out (by omega) t1.out hv257).mono ?_; rintro e w2 ⟨rfl, hm2, ho2⟩; have HM2 := Lib.hid hm2; clear hm2)
    | (go_at_call 18; with_reducible refine (store_at w2 b g 5 c _ _ (8 + (P / 8 % 8).toNat) 513 HM2.out (by omega) t2.out hv513).mono ?_; rintro e w3 ⟨rfl, hm3, ho3⟩; have HM3 := Lib.hid hm3; clear hm3)
    | (go_at_call 18; rw [HV.out]; (with_reducible refine (store_at w3 b g 5 c _ _ (16 + (P % 8).toNat) (x : Int) HM3.out (by omega) t3.out HVX.out).mono ?_); rintro e w4 ⟨rfl, hm4, ho4⟩; have HM4 : Hid (MemAt w4 b g 5 c (memF P x)) := Lib.hid hm4; clear hm4)
    | (go_at_call 14; with_reducible refine (walk_ok w4 b g 5 c (memF P x) 0 P HM4.out HW1.out.1).mono ?_; rw [HW1.out.2, HE.out]; rintro e w5 ⟨rfl, hb5⟩)
    | (go_at_call 14; refine (walk_ok _ b g 5 c (memF P x) 0 P (HM4.out.call (bal hb5 _)) HW1.out.1).mono ?_; rw [HW1.out.2, HE.out]; rintro e w6 ⟨rfl, hb6⟩; obtain ⟨x0, x1, x2, x3, x4⟩ := (ent_new w5 true true true false f).keep (by simp) hb6; have hz6 : w5.heap.size < w6.heap.size := (by have := hb6.size; simp at this; omega))
    | (go_at_call 7; refine (awake5 _).mono ?_; rintro e w7 ⟨rfl, hb7⟩))
  go_ret
  have B2 := hb.trans (ho2.below hg1 lg1)
  have lg2 := ho2.lt lg1
  have B3 := B2.trans (ho3.below hg1 lg2)
  have B4 := B3.trans (ho4.below hg1 (ho3.lt lg2))
  exact ⟨rfl, bgo (bal (bal (bgo (bal (bgo B4 hb5) _) hb6) _) _) hb7⟩
set_option maxRecDepth 100000 in
set_option maxHeartbeats 4000000 in
theorem finds_other0 {W : World} (a0 a1 a2 a3 : Int) (b0 : I64 a0) (b1 : I64 a1) (b2 : I64 a2) (b3 : I64 a3) (P o : Int) (f : Nat) (hP : lowI a0 512 = P) (ho : lowI a1 512 = o) (hf : lowI a2 5 = f) (hr : lowI a3 3 = 0) (p0 : 0 ≤ P) (p1 : P < 512) (o0 : 0 ≤ o) (o1 : o < 512) (f1 : f < 5) (hop : o ≠ P) :
    Calls Try.prog 4 #[.int .i64 a0, .int .i64 a1, .int .i64 a2, .int .i64 a3] W fun e w' => e = .returned (.bool true) ∧ Below W.heap.size W w' := by
  have b0 := Lib.hid (show -9223372036854775808 ≤ a0 ∧ a0 ≤ 9223372036854775807 from b0)
  have b1 := Lib.hid (show -9223372036854775808 ≤ a1 ∧ a1 ≤ 9223372036854775807 from b1)
  have b2 := Lib.hid (show -9223372036854775808 ≤ a2 ∧ a2 ≤ 9223372036854775807 from b2)
  have b3 := Lib.hid (show -9223372036854775808 ≤ a3 ∧ a3 ≤ 9223372036854775807 from b3)
  have hz : (o == P) = false := beq_eq_false_iff_ne.2 hop
  have HOP := Lib.hid hop
  clear hop
  have HR := Lib.hid hr
  have HP := Lib.hid hP
  have HO := Lib.hid ho
  have HF := Lib.hid hf
  have f1' : (f : Int) < 5 := by omega
  clear hr hP ho hf
  obtain ⟨k1, k2, k3, k4, k5⟩ := leaf_key f f1 0 (by decide)
  obtain ⟨x, hx⟩ : ∃ x, 7 + 4 * 0 + 256 * f = x := ⟨_, rfl⟩
  rw [hx] at k1 k2 k3 k4 k5
  have HW1 := Lib.hid ((finds_walk P P p0 p1 p0 p1 x k1).1 rfl)
  have HW2 := Lib.hid ((finds_walk P o p0 p1 o0 o1 x k1).2 HOP.out)
  have hE : entW x = .agg #[.bool true, .bool true, .bool true, .bool false, .int .i64 f] := by unfold entW; rw [k2, k3, k4, k5]; rfl
  have HV := Lib.hid (show 7 + 256 * (f : Int) = (x : Int) by omega)
  have HE := Lib.hid hE
  have hv257 : WordI 257 := ⟨by decide, by decide⟩
  have hv513 : WordI 513 := ⟨by decide, by decide⟩
  have HVX : Hid (WordI (x : Int)) := Lib.hid ⟨by omega, by omega⟩
  clear k1 k2 k3 k4 k5 hx hE
  have t1 : Hid ((P / 64).toNat < 8 * 5) := Lib.hid (by omega)
  have t2 : Hid (8 + (P / 8 % 8).toNat < 8 * 5) := Lib.hid (by omega)
  have t3 : Hid (16 + (P % 8).toNat < 8 * 5) := Lib.hid (by omega)
  go_enter Try.func4, Try.ntmps4
  go_wp2_with (first
    | (go_at_call 16; with_reducible refine (low_any a0 512 _ b0.out (by decide) (by decide)).mono ?_; rw [HP.out]; rintro e w4 ⟨rfl, rfl⟩)
    | (go_at_call 16; with_reducible refine (low_any a1 512 _ b1.out (by decide) (by decide)).mono ?_; rw [HO.out]; rintro e w5 ⟨rfl, rfl⟩)
    | (go_at_call 16; with_reducible refine (low_any a2 5 _ b2.out (by decide) (by decide)).mono ?_; rw [HF.out]; rintro e w5 ⟨rfl, rfl⟩)
    | (go_at_call 16; with_reducible refine (low_any a3 3 _ b3.out (by decide) (by decide)).mono ?_; rw [HR.out]; rintro e w5 ⟨rfl, rfl⟩))
  refine (new_ok _ 5 (by decide) (by decide)).mono ?_
  rintro e w1 ⟨b, g, c, rfl, hm1, hb1, hg1, hb⟩
  have lg1 := hm1.lg
  have HM1 := Lib.hid hm1
  clear hm1
  go_wp2_with (first
    | (go_at_call 18; with_reducible refine (store_at w1 b g 5 c _ _ (P / 64).toNat 257 HM1.out (by omega) t1.out hv257).mono ?_; rintro e w2 ⟨rfl, hm2, ho2⟩; have HM2 := Lib.hid hm2; clear hm2)
    | (go_at_call 18; with_reducible refine (store_at w2 b g 5 c _ _ (8 + (P / 8 % 8).toNat) 513 HM2.out (by omega) t2.out hv513).mono ?_; rintro e w3 ⟨rfl, hm3, ho3⟩; have HM3 := Lib.hid hm3; clear hm3)
    | (go_at_call 18; rw [HV.out]; (with_reducible refine (store_at w3 b g 5 c _ _ (16 + (P % 8).toNat) (x : Int) HM3.out (by omega) t3.out HVX.out).mono ?_); rintro e w4 ⟨rfl, hm4, ho4⟩; have HM4 : Hid (MemAt w4 b g 5 c (memF P x)) := Lib.hid hm4; clear hm4)
    | (go_at_call 14; with_reducible refine (walk_ok w4 b g 5 c (memF P x) 0 P HM4.out HW1.out.1).mono ?_; rw [HW1.out.2, HE.out]; rintro e w5 ⟨rfl, hb5⟩)
    | (go_at_call 14; refine (walk_no _ b g 5 c (memF P x) 0 o 6 (HM4.out.call (bal hb5 _)) HW2.out (by decide)).mono ?_; rintro e w6 ⟨rfl, hb6⟩; obtain ⟨x0, x1, x2, x3, x4⟩ := (ent_new w5 true true true false f).keep (by simp) hb6; have hz6 : w5.heap.size < w6.heap.size := (by have := hb6.size; simp at this; omega))
    | (go_at_call 7; refine (awake5 _).mono ?_; rintro e w7 ⟨rfl, hb7⟩))
  go_ret
  have B2 := hb.trans (ho2.below hg1 lg1)
  have lg2 := ho2.lt lg1
  have B3 := B2.trans (ho3.below hg1 lg2)
  have B4 := B3.trans (ho4.below hg1 (ho3.lt lg2))
  exact ⟨rfl, bgo (bal (bal (bgo (bal (bgo B4 hb5) _) hb6) _) _) hb7⟩
set_option maxRecDepth 100000 in
set_option maxHeartbeats 4000000 in
theorem finds_same1 {W : World} (a0 a1 a2 a3 : Int) (b0 : I64 a0) (b1 : I64 a1) (b2 : I64 a2) (b3 : I64 a3) (P o : Int) (f : Nat) (hP : lowI a0 512 = P) (ho : lowI a1 512 = o) (hf : lowI a2 5 = f) (hr : lowI a3 3 = 1) (p0 : 0 ≤ P) (p1 : P < 512) (o0 : 0 ≤ o) (o1 : o < 512) (f1 : f < 5) (hop : o = P) :
    Calls Try.prog 4 #[.int .i64 a0, .int .i64 a1, .int .i64 a2, .int .i64 a3] W fun e w' => e = .returned (.bool true) ∧ Below W.heap.size W w' := by
  have b0 := Lib.hid (show -9223372036854775808 ≤ a0 ∧ a0 ≤ 9223372036854775807 from b0)
  have b1 := Lib.hid (show -9223372036854775808 ≤ a1 ∧ a1 ≤ 9223372036854775807 from b1)
  have b2 := Lib.hid (show -9223372036854775808 ≤ a2 ∧ a2 ≤ 9223372036854775807 from b2)
  have b3 := Lib.hid (show -9223372036854775808 ≤ a3 ∧ a3 ≤ 9223372036854775807 from b3)
  have ho : lowI a1 512 = P := ho.trans hop
  clear hop o0 o1
  have HR := Lib.hid hr
  have HP := Lib.hid hP
  have HO := Lib.hid ho
  have HF := Lib.hid hf
  have f1' : (f : Int) < 5 := by omega
  clear hr hP ho hf
  obtain ⟨k1, k2, k3, k4, k5⟩ := leaf_key f f1 1 (by decide)
  obtain ⟨x, hx⟩ : ∃ x, 7 + 4 * 1 + 256 * f = x := ⟨_, rfl⟩
  rw [hx] at k1 k2 k3 k4 k5
  have HW1 := Lib.hid ((finds_walk P P p0 p1 p0 p1 x k1).1 rfl)
  have hE : entW x = .agg #[.bool true, .bool true, .bool false, .bool true, .int .i64 f] := by unfold entW; rw [k2, k3, k4, k5]; rfl
  have HV := Lib.hid (show 11 + 256 * (f : Int) = (x : Int) by omega)
  have HE := Lib.hid hE
  have hv257 : WordI 257 := ⟨by decide, by decide⟩
  have hv513 : WordI 513 := ⟨by decide, by decide⟩
  have HVX : Hid (WordI (x : Int)) := Lib.hid ⟨by omega, by omega⟩
  clear k1 k2 k3 k4 k5 hx hE
  have t1 : Hid ((P / 64).toNat < 8 * 5) := Lib.hid (by omega)
  have t2 : Hid (8 + (P / 8 % 8).toNat < 8 * 5) := Lib.hid (by omega)
  have t3 : Hid (16 + (P % 8).toNat < 8 * 5) := Lib.hid (by omega)
  go_enter Try.func4, Try.ntmps4
  go_wp2_with (first
    | (go_at_call 16; with_reducible refine (low_any a0 512 _ b0.out (by decide) (by decide)).mono ?_; rw [HP.out]; rintro e w4 ⟨rfl, rfl⟩)
    | (go_at_call 16; with_reducible refine (low_any a1 512 _ b1.out (by decide) (by decide)).mono ?_; rw [HO.out]; rintro e w5 ⟨rfl, rfl⟩)
    | (go_at_call 16; with_reducible refine (low_any a2 5 _ b2.out (by decide) (by decide)).mono ?_; rw [HF.out]; rintro e w5 ⟨rfl, rfl⟩)
    | (go_at_call 16; with_reducible refine (low_any a3 3 _ b3.out (by decide) (by decide)).mono ?_; rw [HR.out]; rintro e w5 ⟨rfl, rfl⟩))
  refine (new_ok _ 5 (by decide) (by decide)).mono ?_
  rintro e w1 ⟨b, g, c, rfl, hm1, hb1, hg1, hb⟩
  have lg1 := hm1.lg
  have HM1 := Lib.hid hm1
  clear hm1
  go_wp2_with (first
    | (go_at_call 18; with_reducible refine (store_at w1 b g 5 c _ _ (P / 64).toNat 257 HM1.out (by omega) t1.out hv257).mono ?_; rintro e w2 ⟨rfl, hm2, ho2⟩; have HM2 := Lib.hid hm2; clear hm2)
    | (go_at_call 18; with_reducible refine (store_at w2 b g 5 c _ _ (8 + (P / 8 % 8).toNat) 513 HM2.out (by omega) t2.out hv513).mono ?_; rintro e w3 ⟨rfl, hm3, ho3⟩; have HM3 := Lib.hid hm3; clear hm3)
    | (go_at_call 18; rw [HV.out]; (with_reducible refine (store_at w3 b g 5 c _ _ (16 + (P % 8).toNat) (x : Int) HM3.out (by omega) t3.out HVX.out).mono ?_); rintro e w4 ⟨rfl, hm4, ho4⟩; have HM4 : Hid (MemAt w4 b g 5 c (memF P x)) := Lib.hid hm4; clear hm4)
    | (go_at_call 14; with_reducible refine (walk_ok w4 b g 5 c (memF P x) 0 P HM4.out HW1.out.1).mono ?_; rw [HW1.out.2, HE.out]; rintro e w5 ⟨rfl, hb5⟩)
    | (go_at_call 14; refine (walk_ok _ b g 5 c (memF P x) 0 P (HM4.out.call (bal hb5 _)) HW1.out.1).mono ?_; rw [HW1.out.2, HE.out]; rintro e w6 ⟨rfl, hb6⟩; obtain ⟨x0, x1, x2, x3, x4⟩ := (ent_new w5 true true false true f).keep (by simp) hb6; have hz6 : w5.heap.size < w6.heap.size := (by have := hb6.size; simp at this; omega))
    | (go_at_call 7; refine (awake5 _).mono ?_; rintro e w7 ⟨rfl, hb7⟩))
  go_ret
  have B2 := hb.trans (ho2.below hg1 lg1)
  have lg2 := ho2.lt lg1
  have B3 := B2.trans (ho3.below hg1 lg2)
  have B4 := B3.trans (ho4.below hg1 (ho3.lt lg2))
  exact ⟨rfl, bgo (bal (bal (bgo (bal (bgo B4 hb5) _) hb6) _) _) hb7⟩
set_option maxRecDepth 100000 in
set_option maxHeartbeats 4000000 in
theorem finds_other1 {W : World} (a0 a1 a2 a3 : Int) (b0 : I64 a0) (b1 : I64 a1) (b2 : I64 a2) (b3 : I64 a3) (P o : Int) (f : Nat) (hP : lowI a0 512 = P) (ho : lowI a1 512 = o) (hf : lowI a2 5 = f) (hr : lowI a3 3 = 1) (p0 : 0 ≤ P) (p1 : P < 512) (o0 : 0 ≤ o) (o1 : o < 512) (f1 : f < 5) (hop : o ≠ P) :
    Calls Try.prog 4 #[.int .i64 a0, .int .i64 a1, .int .i64 a2, .int .i64 a3] W fun e w' => e = .returned (.bool true) ∧ Below W.heap.size W w' := by
  have b0 := Lib.hid (show -9223372036854775808 ≤ a0 ∧ a0 ≤ 9223372036854775807 from b0)
  have b1 := Lib.hid (show -9223372036854775808 ≤ a1 ∧ a1 ≤ 9223372036854775807 from b1)
  have b2 := Lib.hid (show -9223372036854775808 ≤ a2 ∧ a2 ≤ 9223372036854775807 from b2)
  have b3 := Lib.hid (show -9223372036854775808 ≤ a3 ∧ a3 ≤ 9223372036854775807 from b3)
  have hz : (o == P) = false := beq_eq_false_iff_ne.2 hop
  have HOP := Lib.hid hop
  clear hop
  have HR := Lib.hid hr
  have HP := Lib.hid hP
  have HO := Lib.hid ho
  have HF := Lib.hid hf
  have f1' : (f : Int) < 5 := by omega
  clear hr hP ho hf
  obtain ⟨k1, k2, k3, k4, k5⟩ := leaf_key f f1 1 (by decide)
  obtain ⟨x, hx⟩ : ∃ x, 7 + 4 * 1 + 256 * f = x := ⟨_, rfl⟩
  rw [hx] at k1 k2 k3 k4 k5
  have HW1 := Lib.hid ((finds_walk P P p0 p1 p0 p1 x k1).1 rfl)
  have HW2 := Lib.hid ((finds_walk P o p0 p1 o0 o1 x k1).2 HOP.out)
  have hE : entW x = .agg #[.bool true, .bool true, .bool false, .bool true, .int .i64 f] := by unfold entW; rw [k2, k3, k4, k5]; rfl
  have HV := Lib.hid (show 11 + 256 * (f : Int) = (x : Int) by omega)
  have HE := Lib.hid hE
  have hv257 : WordI 257 := ⟨by decide, by decide⟩
  have hv513 : WordI 513 := ⟨by decide, by decide⟩
  have HVX : Hid (WordI (x : Int)) := Lib.hid ⟨by omega, by omega⟩
  clear k1 k2 k3 k4 k5 hx hE
  have t1 : Hid ((P / 64).toNat < 8 * 5) := Lib.hid (by omega)
  have t2 : Hid (8 + (P / 8 % 8).toNat < 8 * 5) := Lib.hid (by omega)
  have t3 : Hid (16 + (P % 8).toNat < 8 * 5) := Lib.hid (by omega)
  go_enter Try.func4, Try.ntmps4
  go_wp2_with (first
    | (go_at_call 16; with_reducible refine (low_any a0 512 _ b0.out (by decide) (by decide)).mono ?_; rw [HP.out]; rintro e w4 ⟨rfl, rfl⟩)
    | (go_at_call 16; with_reducible refine (low_any a1 512 _ b1.out (by decide) (by decide)).mono ?_; rw [HO.out]; rintro e w5 ⟨rfl, rfl⟩)
    | (go_at_call 16; with_reducible refine (low_any a2 5 _ b2.out (by decide) (by decide)).mono ?_; rw [HF.out]; rintro e w5 ⟨rfl, rfl⟩)
    | (go_at_call 16; with_reducible refine (low_any a3 3 _ b3.out (by decide) (by decide)).mono ?_; rw [HR.out]; rintro e w5 ⟨rfl, rfl⟩))
  refine (new_ok _ 5 (by decide) (by decide)).mono ?_
  rintro e w1 ⟨b, g, c, rfl, hm1, hb1, hg1, hb⟩
  have lg1 := hm1.lg
  have HM1 := Lib.hid hm1
  clear hm1
  go_wp2_with (first
    | (go_at_call 18; with_reducible refine (store_at w1 b g 5 c _ _ (P / 64).toNat 257 HM1.out (by omega) t1.out hv257).mono ?_; rintro e w2 ⟨rfl, hm2, ho2⟩; have HM2 := Lib.hid hm2; clear hm2)
    | (go_at_call 18; with_reducible refine (store_at w2 b g 5 c _ _ (8 + (P / 8 % 8).toNat) 513 HM2.out (by omega) t2.out hv513).mono ?_; rintro e w3 ⟨rfl, hm3, ho3⟩; have HM3 := Lib.hid hm3; clear hm3)
    | (go_at_call 18; rw [HV.out]; (with_reducible refine (store_at w3 b g 5 c _ _ (16 + (P % 8).toNat) (x : Int) HM3.out (by omega) t3.out HVX.out).mono ?_); rintro e w4 ⟨rfl, hm4, ho4⟩; have HM4 : Hid (MemAt w4 b g 5 c (memF P x)) := Lib.hid hm4; clear hm4)
    | (go_at_call 14; with_reducible refine (walk_ok w4 b g 5 c (memF P x) 0 P HM4.out HW1.out.1).mono ?_; rw [HW1.out.2, HE.out]; rintro e w5 ⟨rfl, hb5⟩)
    | (go_at_call 14; refine (walk_no _ b g 5 c (memF P x) 0 o 6 (HM4.out.call (bal hb5 _)) HW2.out (by decide)).mono ?_; rintro e w6 ⟨rfl, hb6⟩; obtain ⟨x0, x1, x2, x3, x4⟩ := (ent_new w5 true true false true f).keep (by simp) hb6; have hz6 : w5.heap.size < w6.heap.size := (by have := hb6.size; simp at this; omega))
    | (go_at_call 7; refine (awake5 _).mono ?_; rintro e w7 ⟨rfl, hb7⟩))
  go_ret
  have B2 := hb.trans (ho2.below hg1 lg1)
  have lg2 := ho2.lt lg1
  have B3 := B2.trans (ho3.below hg1 lg2)
  have B4 := B3.trans (ho4.below hg1 (ho3.lt lg2))
  exact ⟨rfl, bgo (bal (bal (bgo (bal (bgo B4 hb5) _) hb6) _) _) hb7⟩
set_option maxRecDepth 100000 in
set_option maxHeartbeats 4000000 in
theorem finds_same2 {W : World} (a0 a1 a2 a3 : Int) (b0 : I64 a0) (b1 : I64 a1) (b2 : I64 a2) (b3 : I64 a3) (P o : Int) (f : Nat) (hP : lowI a0 512 = P) (ho : lowI a1 512 = o) (hf : lowI a2 5 = f) (hr : lowI a3 3 = 2) (p0 : 0 ≤ P) (p1 : P < 512) (o0 : 0 ≤ o) (o1 : o < 512) (f1 : f < 5) (hop : o = P) :
    Calls Try.prog 4 #[.int .i64 a0, .int .i64 a1, .int .i64 a2, .int .i64 a3] W fun e w' => e = .returned (.bool true) ∧ Below W.heap.size W w' := by
  have b0 := Lib.hid (show -9223372036854775808 ≤ a0 ∧ a0 ≤ 9223372036854775807 from b0)
  have b1 := Lib.hid (show -9223372036854775808 ≤ a1 ∧ a1 ≤ 9223372036854775807 from b1)
  have b2 := Lib.hid (show -9223372036854775808 ≤ a2 ∧ a2 ≤ 9223372036854775807 from b2)
  have b3 := Lib.hid (show -9223372036854775808 ≤ a3 ∧ a3 ≤ 9223372036854775807 from b3)
  have ho : lowI a1 512 = P := ho.trans hop
  clear hop o0 o1
  have HR := Lib.hid hr
  have HP := Lib.hid hP
  have HO := Lib.hid ho
  have HF := Lib.hid hf
  have f1' : (f : Int) < 5 := by omega
  clear hr hP ho hf
  obtain ⟨k1, k2, k3, k4, k5⟩ := leaf_key f f1 2 (by decide)
  obtain ⟨x, hx⟩ : ∃ x, 7 + 4 * 2 + 256 * f = x := ⟨_, rfl⟩
  rw [hx] at k1 k2 k3 k4 k5
  have HW1 := Lib.hid ((finds_walk P P p0 p1 p0 p1 x k1).1 rfl)
  have hE : entW x = .agg #[.bool true, .bool true, .bool true, .bool true, .int .i64 f] := by unfold entW; rw [k2, k3, k4, k5]; rfl
  have HV := Lib.hid (show 15 + 256 * (f : Int) = (x : Int) by omega)
  have HE := Lib.hid hE
  have hv257 : WordI 257 := ⟨by decide, by decide⟩
  have hv513 : WordI 513 := ⟨by decide, by decide⟩
  have HVX : Hid (WordI (x : Int)) := Lib.hid ⟨by omega, by omega⟩
  clear k1 k2 k3 k4 k5 hx hE
  have t1 : Hid ((P / 64).toNat < 8 * 5) := Lib.hid (by omega)
  have t2 : Hid (8 + (P / 8 % 8).toNat < 8 * 5) := Lib.hid (by omega)
  have t3 : Hid (16 + (P % 8).toNat < 8 * 5) := Lib.hid (by omega)
  go_enter Try.func4, Try.ntmps4
  go_wp2_with (first
    | (go_at_call 16; with_reducible refine (low_any a0 512 _ b0.out (by decide) (by decide)).mono ?_; rw [HP.out]; rintro e w4 ⟨rfl, rfl⟩)
    | (go_at_call 16; with_reducible refine (low_any a1 512 _ b1.out (by decide) (by decide)).mono ?_; rw [HO.out]; rintro e w5 ⟨rfl, rfl⟩)
    | (go_at_call 16; with_reducible refine (low_any a2 5 _ b2.out (by decide) (by decide)).mono ?_; rw [HF.out]; rintro e w5 ⟨rfl, rfl⟩)
    | (go_at_call 16; with_reducible refine (low_any a3 3 _ b3.out (by decide) (by decide)).mono ?_; rw [HR.out]; rintro e w5 ⟨rfl, rfl⟩))
  refine (new_ok _ 5 (by decide) (by decide)).mono ?_
  rintro e w1 ⟨b, g, c, rfl, hm1, hb1, hg1, hb⟩
  have lg1 := hm1.lg
  have HM1 := Lib.hid hm1
  clear hm1
  go_wp2_with (first
    | (go_at_call 18; with_reducible refine (store_at w1 b g 5 c _ _ (P / 64).toNat 257 HM1.out (by omega) t1.out hv257).mono ?_; rintro e w2 ⟨rfl, hm2, ho2⟩; have HM2 := Lib.hid hm2; clear hm2)
    | (go_at_call 18; with_reducible refine (store_at w2 b g 5 c _ _ (8 + (P / 8 % 8).toNat) 513 HM2.out (by omega) t2.out hv513).mono ?_; rintro e w3 ⟨rfl, hm3, ho3⟩; have HM3 := Lib.hid hm3; clear hm3)
    | (go_at_call 18; rw [HV.out]; (with_reducible refine (store_at w3 b g 5 c _ _ (16 + (P % 8).toNat) (x : Int) HM3.out (by omega) t3.out HVX.out).mono ?_); rintro e w4 ⟨rfl, hm4, ho4⟩; have HM4 : Hid (MemAt w4 b g 5 c (memF P x)) := Lib.hid hm4; clear hm4)
    | (go_at_call 14; with_reducible refine (walk_ok w4 b g 5 c (memF P x) 0 P HM4.out HW1.out.1).mono ?_; rw [HW1.out.2, HE.out]; rintro e w5 ⟨rfl, hb5⟩)
    | (go_at_call 14; refine (walk_ok _ b g 5 c (memF P x) 0 P (HM4.out.call (bal hb5 _)) HW1.out.1).mono ?_; rw [HW1.out.2, HE.out]; rintro e w6 ⟨rfl, hb6⟩; obtain ⟨x0, x1, x2, x3, x4⟩ := (ent_new w5 true true true true f).keep (by simp) hb6; have hz6 : w5.heap.size < w6.heap.size := (by have := hb6.size; simp at this; omega))
    | (go_at_call 7; refine (awake5 _).mono ?_; rintro e w7 ⟨rfl, hb7⟩))
  go_ret
  have B2 := hb.trans (ho2.below hg1 lg1)
  have lg2 := ho2.lt lg1
  have B3 := B2.trans (ho3.below hg1 lg2)
  have B4 := B3.trans (ho4.below hg1 (ho3.lt lg2))
  exact ⟨rfl, bgo (bal (bal (bgo (bal (bgo B4 hb5) _) hb6) _) _) hb7⟩
set_option maxRecDepth 100000 in
set_option maxHeartbeats 4000000 in
theorem finds_other2 {W : World} (a0 a1 a2 a3 : Int) (b0 : I64 a0) (b1 : I64 a1) (b2 : I64 a2) (b3 : I64 a3) (P o : Int) (f : Nat) (hP : lowI a0 512 = P) (ho : lowI a1 512 = o) (hf : lowI a2 5 = f) (hr : lowI a3 3 = 2) (p0 : 0 ≤ P) (p1 : P < 512) (o0 : 0 ≤ o) (o1 : o < 512) (f1 : f < 5) (hop : o ≠ P) :
    Calls Try.prog 4 #[.int .i64 a0, .int .i64 a1, .int .i64 a2, .int .i64 a3] W fun e w' => e = .returned (.bool true) ∧ Below W.heap.size W w' := by
  have b0 := Lib.hid (show -9223372036854775808 ≤ a0 ∧ a0 ≤ 9223372036854775807 from b0)
  have b1 := Lib.hid (show -9223372036854775808 ≤ a1 ∧ a1 ≤ 9223372036854775807 from b1)
  have b2 := Lib.hid (show -9223372036854775808 ≤ a2 ∧ a2 ≤ 9223372036854775807 from b2)
  have b3 := Lib.hid (show -9223372036854775808 ≤ a3 ∧ a3 ≤ 9223372036854775807 from b3)
  have hz : (o == P) = false := beq_eq_false_iff_ne.2 hop
  have HOP := Lib.hid hop
  clear hop
  have HR := Lib.hid hr
  have HP := Lib.hid hP
  have HO := Lib.hid ho
  have HF := Lib.hid hf
  have f1' : (f : Int) < 5 := by omega
  clear hr hP ho hf
  obtain ⟨k1, k2, k3, k4, k5⟩ := leaf_key f f1 2 (by decide)
  obtain ⟨x, hx⟩ : ∃ x, 7 + 4 * 2 + 256 * f = x := ⟨_, rfl⟩
  rw [hx] at k1 k2 k3 k4 k5
  have HW1 := Lib.hid ((finds_walk P P p0 p1 p0 p1 x k1).1 rfl)
  have HW2 := Lib.hid ((finds_walk P o p0 p1 o0 o1 x k1).2 HOP.out)
  have hE : entW x = .agg #[.bool true, .bool true, .bool true, .bool true, .int .i64 f] := by unfold entW; rw [k2, k3, k4, k5]; rfl
  have HV := Lib.hid (show 15 + 256 * (f : Int) = (x : Int) by omega)
  have HE := Lib.hid hE
  have hv257 : WordI 257 := ⟨by decide, by decide⟩
  have hv513 : WordI 513 := ⟨by decide, by decide⟩
  have HVX : Hid (WordI (x : Int)) := Lib.hid ⟨by omega, by omega⟩
  clear k1 k2 k3 k4 k5 hx hE
  have t1 : Hid ((P / 64).toNat < 8 * 5) := Lib.hid (by omega)
  have t2 : Hid (8 + (P / 8 % 8).toNat < 8 * 5) := Lib.hid (by omega)
  have t3 : Hid (16 + (P % 8).toNat < 8 * 5) := Lib.hid (by omega)
  go_enter Try.func4, Try.ntmps4
  go_wp2_with (first
    | (go_at_call 16; with_reducible refine (low_any a0 512 _ b0.out (by decide) (by decide)).mono ?_; rw [HP.out]; rintro e w4 ⟨rfl, rfl⟩)
    | (go_at_call 16; with_reducible refine (low_any a1 512 _ b1.out (by decide) (by decide)).mono ?_; rw [HO.out]; rintro e w5 ⟨rfl, rfl⟩)
    | (go_at_call 16; with_reducible refine (low_any a2 5 _ b2.out (by decide) (by decide)).mono ?_; rw [HF.out]; rintro e w5 ⟨rfl, rfl⟩)
    | (go_at_call 16; with_reducible refine (low_any a3 3 _ b3.out (by decide) (by decide)).mono ?_; rw [HR.out]; rintro e w5 ⟨rfl, rfl⟩))
  refine (new_ok _ 5 (by decide) (by decide)).mono ?_
  rintro e w1 ⟨b, g, c, rfl, hm1, hb1, hg1, hb⟩
  have lg1 := hm1.lg
  have HM1 := Lib.hid hm1
  clear hm1
  go_wp2_with (first
    | (go_at_call 18; with_reducible refine (store_at w1 b g 5 c _ _ (P / 64).toNat 257 HM1.out (by omega) t1.out hv257).mono ?_; rintro e w2 ⟨rfl, hm2, ho2⟩; have HM2 := Lib.hid hm2; clear hm2)
    | (go_at_call 18; with_reducible refine (store_at w2 b g 5 c _ _ (8 + (P / 8 % 8).toNat) 513 HM2.out (by omega) t2.out hv513).mono ?_; rintro e w3 ⟨rfl, hm3, ho3⟩; have HM3 := Lib.hid hm3; clear hm3)
    | (go_at_call 18; rw [HV.out]; (with_reducible refine (store_at w3 b g 5 c _ _ (16 + (P % 8).toNat) (x : Int) HM3.out (by omega) t3.out HVX.out).mono ?_); rintro e w4 ⟨rfl, hm4, ho4⟩; have HM4 : Hid (MemAt w4 b g 5 c (memF P x)) := Lib.hid hm4; clear hm4)
    | (go_at_call 14; with_reducible refine (walk_ok w4 b g 5 c (memF P x) 0 P HM4.out HW1.out.1).mono ?_; rw [HW1.out.2, HE.out]; rintro e w5 ⟨rfl, hb5⟩)
    | (go_at_call 14; refine (walk_no _ b g 5 c (memF P x) 0 o 6 (HM4.out.call (bal hb5 _)) HW2.out (by decide)).mono ?_; rintro e w6 ⟨rfl, hb6⟩; obtain ⟨x0, x1, x2, x3, x4⟩ := (ent_new w5 true true true true f).keep (by simp) hb6; have hz6 : w5.heap.size < w6.heap.size := (by have := hb6.size; simp at this; omega))
    | (go_at_call 7; refine (awake5 _).mono ?_; rintro e w7 ⟨rfl, hb7⟩))
  go_ret
  have B2 := hb.trans (ho2.below hg1 lg1)
  have lg2 := ho2.lt lg1
  have B3 := B2.trans (ho3.below hg1 lg2)
  have B4 := B3.trans (ho4.below hg1 (ho3.lt lg2))
  exact ⟨rfl, bgo (bal (bal (bgo (bal (bgo B4 hb5) _) hb6) _) _) hb7⟩
theorem walk_walkFinds (a0 : Int) (w0 : (Lit.int .i64 a0).wf = true) (a1 : Int) (w1 : (Lit.int .i64 a1).wf = true) (a2 : Int) (w2 : (Lit.int .i64 a2).wf = true) (a3 : Int) (w3 : (Lit.int .i64 a3).wf = true) (W : World) :
    Calls Try.prog 4 #[.int .i64 a0, .int .i64 a1, .int .i64 a2, .int .i64 a3] W fun e w' => e = .returned (.bool true) ∧ Below W.heap.size W w' := by
  have p0 := lowI_0 a0 512 (by decide)
  have p1 := lowI_1 a0 512 (by decide)
  have o0 := lowI_0 a1 512 (by decide)
  have o1 := lowI_1 a1 512 (by decide)
  have f0 := lowI_0 a2 5 (by decide)
  have f1 := lowI_1 a2 5 (by decide)
  have r0 := lowI_0 a3 3 (by decide)
  have r1 := lowI_1 a3 3 (by decide)
  by_cases hop : lowI a1 512 = lowI a0 512
  · rcases (by omega : lowI a3 3 = 0 ∨ lowI a3 3 = 1 ∨ lowI a3 3 = 2) with hr | hr | hr
    · exact finds_same0 a0 a1 a2 a3 (i64_of w0) (i64_of w1) (i64_of w2) (i64_of w3) _ _ (lowI a2 5).toNat rfl rfl (by omega) hr p0 p1 o0 o1 (by omega) hop
    · exact finds_same1 a0 a1 a2 a3 (i64_of w0) (i64_of w1) (i64_of w2) (i64_of w3) _ _ (lowI a2 5).toNat rfl rfl (by omega) hr p0 p1 o0 o1 (by omega) hop
    · exact finds_same2 a0 a1 a2 a3 (i64_of w0) (i64_of w1) (i64_of w2) (i64_of w3) _ _ (lowI a2 5).toNat rfl rfl (by omega) hr p0 p1 o0 o1 (by omega) hop
  · rcases (by omega : lowI a3 3 = 0 ∨ lowI a3 3 = 1 ∨ lowI a3 3 = 2) with hr | hr | hr
    · exact finds_other0 a0 a1 a2 a3 (i64_of w0) (i64_of w1) (i64_of w2) (i64_of w3) _ _ (lowI a2 5).toNat rfl rfl (by omega) hr p0 p1 o0 o1 (by omega) hop
    · exact finds_other1 a0 a1 a2 a3 (i64_of w0) (i64_of w1) (i64_of w2) (i64_of w3) _ _ (lowI a2 5).toNat rfl rfl (by omega) hr p0 p1 o0 o1 (by omega) hop
    · exact finds_other2 a0 a1 a2 a3 (i64_of w0) (i64_of w1) (i64_of w2) (i64_of w3) _ _ (lowI a2 5).toNat rfl rfl (by omega) hr p0 p1 o0 o1 (by omega) hop
end Go.Proofs.Yticoddjidibecaa
