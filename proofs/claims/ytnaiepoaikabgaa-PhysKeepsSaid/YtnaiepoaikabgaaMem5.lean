/- The law PhysKeeps. -/
import Derived.Test.YtnaiepoaikabgaaMem3
import Derived.Test.YtnaiepoaikabgaaMem4
import Derived.Test.YtnaiepoaikabgaaLowL
namespace Go.Proofs.Ytnaiepoaikabgaa
set_option linter.unusedVariables false
set_option linter.unusedSimpArgs false
open Go.ChangeShapes Go.WideShapes Go.ChangeAt Go.RowKit Go.Shelf

/-- What Zero leaves of a memory of 16 frames, and its code. -/
def zeroR (m : Nat → Int) (f l : Nat) : (Nat → Int) × Int := if f + l ≤ 16 then (zeroW m (8 * f) (8 * l), 0) else (m, 3)
theorem zero16 (w : World) (b g c f l : Nat) (m : Nat → Int) (h : MemAt w b g 16 c m) (hf : f < 16) :
    Calls Try.prog 15 #[.pointer (some ⟨b, 0, none⟩), .int .i64 f, .int .i64 l] w fun e w' => e = .returned (.int .i64 (zeroR m f l).2) ∧ MemAt w' b g 16 c (zeroR m f l).1 ∧ BlkOnly g w w' := by
  unfold zeroR
  by_cases hl : f + l ≤ 16
  · rw [if_pos hl]
    exact zero_ok w b g 16 c f l m h hf hl
  · rw [if_neg hl]
    exact (zero_bad w b g 16 c f l m h (by omega)).mono fun e w' ⟨he, hw⟩ => hw ▸ ⟨he, h, BlkOnly.refl _ _⟩
set_option maxRecDepth 100000 in
set_option maxHeartbeats 8000000 in
theorem walk_physKeeps {W : World} (p : Option Addr) (n c : Nat) (hx : n ≤ c ∧ c ≤ maxLen ∧ ∃ D, ActsAt W p n D) (ad : Int) (wad : (Lit.int .u64 ad).wf = true) (v : Int) (wv : (Lit.int .u64 v).wf = true) (f0 : Int) (wf0 : (Lit.int .i64 f0).wf = true) (n0 : Int) (wn0 : (Lit.int .i64 n0).wf = true) :
    Calls Try.prog 4 #[.slice p n c, .int .u64 ad, .int .u64 v, .int .i64 f0, .int .i64 n0] W fun e w' => e = .returned (.bool true) ∧ Below W.heap.size W w' := by
  obtain ⟨h1, h2, D, pb, off, hp, hD⟩ := hx
  unfold maxLen at h2
  have HD := Lib.hid hD
  have HP := Lib.hid hp
  obtain ⟨ad0, ad1⟩ := u64_of wad
  have HV0 := Lib.hid (u64_of wv)
  have HF0 := Lib.hid (show -9223372036854775808 ≤ f0 ∧ f0 ≤ 9223372036854775807 from i64_of wf0)
  have HN0 := Lib.hid (show -9223372036854775808 ≤ n0 ∧ n0 ≤ 9223372036854775807 from i64_of wn0)
  clear hD hp wad wv wf0 wn0
  by_cases hn : 100 < n
  · go_enter Try.func4, Try.ntmps4
    go_wp2_with (first
      | (go_at_call 7; refine (awake2 _).mono ?_; rintro e w3 ⟨rfl, hb3⟩))
    go_ret
    exact ⟨rfl, hb3⟩
  have hn1 : n ≤ 100 := by omega
  clear hn
  have q0 := lowI_0 f0 16 (by decide)
  have q1 := lowI_1 f0 16 (by decide)
  obtain ⟨fq, hfq⟩ : ∃ q : Nat, lowI f0 16 = q := ⟨(lowI f0 16).toNat, by omega⟩
  rw [hfq] at q0 q1
  have HFQ := Lib.hid hfq
  have r0 := lowI_0 n0 4 (by decide)
  have r1 := lowI_1 n0 4 (by decide)
  obtain ⟨nq, hnq⟩ : ∃ q : Nat, lowI n0 4 = q := ⟨(lowI n0 4).toNat, by omega⟩
  rw [hnq] at r0 r1
  have HNQ := Lib.hid hnq
  clear hfq hnq
  obtain ⟨j, hj⟩ : ∃ j : Nat, ad % 1024 / 8 = j := ⟨(ad % 1024 / 8).toNat, by omega⟩
  have j0 : 0 ≤ ad % 1024 := by omega
  have j1 : ad % 1024 ≤ 1023 := by omega
  have j2 : 0 ≤ ad % 1024 / 8 := by omega
  have j3 : ad % 1024 / 8 ≤ 127 := by omega
  have j4 : j < 8 * 16 := by omega
  have HJ := Lib.hid hj
  clear hj
  go_enter Try.func4, Try.ntmps4
  go_wp2_with (first
    | (go_at_call 8; refine (new_ok _ 16 (by decide) (by decide)).mono ?_; rintro e w1 ⟨b, g, c1, rfl, hm1, hb1, hg1, hw1⟩; have HM1 := Lib.hid hm1; clear hm1))
  go_loopw [13] (fun i wr => ∃ (k : Nat) (m : Nat → Int), k ≤ n ∧ i = .int .i64 k ∧ Hid (MemAt wr b g 16 c1 m) ∧ Below W.heap.size W wr) (fun i _ => n - (intOf i).toNat)
  case atStart => exact ⟨0, _, by omega, rfl, HM1, hw1⟩
  case round =>
    obtain ⟨k, m, hk, rfl, HM, hB⟩ := hrel
    clear HM1
    by_cases hlt : k < n
    · obtain ⟨rfl, hpx⟩ := HP.out (by omega)
      obtain ⟨⟨c0, c1', c2, c3, c4⟩, -, ⟨da0, da1⟩, dv, -, -⟩ := HD.out k hlt
      obtain ⟨⟨xd, xa, xv, xf, xn⟩, hx⟩ : ∃ x, D k = x := ⟨_, rfl⟩
      rw [hx] at c1' c2 da0 da1 dv
      simp only at c1' c2 da0 da1 dv
      have e1 := (hB.cell (p := ⟨pb, off + k * 5 + 1, none⟩) hpx).trans c1'
      have e2 := (hB.cell (p := ⟨pb, off + k * 5 + 2, none⟩) hpx).trans c2
      have HV := Lib.hid dv
      clear c0 c1' c2 c3 c4 hx dv j0 j1 j2 j3 j4 HJ
      have hlt' : (k : Int) < n := by omega
      obtain ⟨j, hj⟩ : ∃ j : Nat, xa % 1024 / 8 = j := ⟨(xa % 1024 / 8).toNat, by omega⟩
      have j0 : 0 ≤ xa % 1024 := by omega
      have j1 : xa % 1024 ≤ 1023 := by omega
      have j2 : 0 ≤ xa % 1024 / 8 := by omega
      have j3 : xa % 1024 / 8 ≤ 127 := by omega
      have j4 : j < 8 * 16 := by omega
      have HJ := Lib.hid hj
      clear hj
      go_wp2
      go_still_tail 14, (by kernel_rfl)
      change wpList _ _ _ _ _ wr.drew
      have HMD : Hid (MemAt wr.drew b g 16 c1 m) := Lib.hid (HM.out.call (Below.refl _ _).drew)
      have hBD : Below W.heap.size W wr.drew := hB.drew
      generalize wr.drew = wd at *
      go_wp2_with (first
        | (go_at_call 13; refine (store_at _ b g 16 c1 m _ j xv HMD.out (by have := HJ.out; omega) j4 HV.out).mono ?_; rintro e w2 ⟨rfl, hm2, ho2⟩; have HM2 := Lib.hid hm2; clear hm2))
      go_roundw
      case rel => exact ⟨k + 1, _, by omega, by go_num, HM2, hBD.trans (ho2.below hg1 HMD.out.lg)⟩
      case measure => simp [intOf]; omega
    · obtain rfl : k = n := by omega
      go_wp2_with (fail)
      refine (copy_any _ b g 16 c1 m HM.out).mono ?_
      rintro e w2 ⟨b2, g2, c2, rfl, hm2, hb2, hg2, hw2⟩
      have HC2 := Lib.hid hm2
      have HM2 := Lib.hid (HM.out.call hw2)
      have lb := HM.out.lb
      have lg := HM.out.lg
      have lb2 := hm2.lb
      have lg2 := hm2.lg
      have hB2 : Below W.heap.size W w2 := bgo hB hw2
      clear hm2
      by_cases hfn : (fq : Int) + nq ≤ 16
      · have hz : zeroR m fq nq = (zeroW m (8 * fq) (8 * nq), 0) := by unfold zeroR; rw [if_pos (by omega)]
        have HZ := Lib.hid hz
        clear hz
        go_wp2_with (first
          | (go_at_call 13; refine (store_at _ b2 g2 16 c2 m _ j v HC2.out (by have := HJ.out; omega) j4 HV0.out).mono ?_; rintro e w3 ⟨rfl, hm3, ho3⟩; have HC3 := Lib.hid hm3; have HM3 := Lib.hid (ho3.mem HM2.out (by omega) (by omega)); have hB3 : Below W.heap.size W w3 := (hB2.trans (ho3.below (by omega) lg2)); have hs3 := ho3.size; clear hm3)
          | (go_at_call 23; with_reducible refine (low_any f0 16 _ HF0.out (by decide) (by decide)).mono ?_; rw [HFQ.out]; rintro e w4 ⟨rfl, rfl⟩)
          | (go_at_call 23; with_reducible refine (low_any n0 4 _ HN0.out (by decide) (by decide)).mono ?_; rw [HNQ.out]; rintro e w4 ⟨rfl, rfl⟩)
          | (go_at_call 21; refine (copy_any _ b g 16 c1 m HM3.out).mono ?_; rintro e w5 ⟨b5, g5, c5, rfl, hm5, hb5, hg5, hw5⟩; have HD5 := Lib.hid hm5; have HM5 := Lib.hid (HM3.out.call hw5); have HC5 := Lib.hid (HC3.out.call hw5); have hB5 : Below W.heap.size W w5 := bgo hB3 hw5; have lb5 := hm5.lb; have lg5 := hm5.lg; clear hm5)
          | (go_at_call 15; refine (zero16 _ b5 g5 c5 fq nq m HD5.out (by omega)).mono ?_; rw [HZ.out]; rintro e w6 ⟨rfl, hm6, ho6⟩; have HD6 := Lib.hid hm6; have HM6 := Lib.hid (ho6.mem HM5.out (by omega) (by omega)); have HC6 := Lib.hid (ho6.mem HC5.out (by omega) (by omega)); have hB6 : Below W.heap.size W w6 := (hB5.trans (ho6.below (by omega) lg5)); clear hm6))
        go_loop [18] (fun i => ∃ k : Nat, k ≤ 128 ∧ i = .int .u64 (8 * (k : Int))) (fun i => 1024 - (intOf i).toNat)
        case atStart => exact ⟨0, by omega, by simp⟩
        case round =>
          obtain ⟨k', hk', rfl⟩ := hrel
          by_cases hlk : k' < 128
          · obtain ⟨I, hI⟩ : ∃ I : Int, 8 * (k' : Int) = I := ⟨_, rfl⟩
            rw [hI]
            have i0 : 0 ≤ I := by omega
            have i1 : I < 1024 := by omega
            have i2 : 0 ≤ I / 64 := by omega
            have i3 : I / 64 < 16 := by omega
            have i4 : k' < 8 * 16 := by omega
            have hAt : (k' = j ∧ (I == ad % 1024 / 8 * 8) = true ∧ (I != ad % 1024 / 8 * 8) = false) ∨ (k' ≠ j ∧ (I == ad % 1024 / 8 * 8) = false ∧ (I != ad % 1024 / 8 * 8) = true) := by
              have := HJ.out
              by_cases e : k' = j
              · exact .inl ⟨e, beq_iff_eq.2 (by omega), bne_eq_false_iff_eq.2 (by omega)⟩
              · exact .inr ⟨e, beq_eq_false_iff_ne.2 (by omega), bne_iff_ne.2 (by omega)⟩
            obtain ⟨y, hy⟩ : ∃ y, m k' = y := ⟨_, rfl⟩
            have HY := Lib.hid hy
            have hin : (I / 64 < (fq : Int) ∧ zeroW m (8 * fq) (8 * nq) k' = y) ∨ ((fq : Int) ≤ I / 64 ∧ I / 64 < (fq : Int) + nq ∧ zeroW m (8 * fq) (8 * nq) k' = 0) ∨ ((fq : Int) ≤ I / 64 ∧ (fq : Int) + nq ≤ I / 64 ∧ zeroW m (8 * fq) (8 * nq) k' = y) := by
              unfold zeroW
              by_cases e1 : I / 64 < (fq : Int)
              · exact .inl ⟨e1, by rw [if_neg (by omega)]; exact hy⟩
              · by_cases e2 : I / 64 < (fq : Int) + nq
                · exact .inr (.inl ⟨by omega, e2, by rw [if_pos (by omega)]⟩)
                · exact .inr (.inr ⟨by omega, by omega, by rw [if_neg (by omega)]; exact hy⟩)
            have HI := Lib.hid hI
            rcases hAt with ⟨he, hat, hat2⟩ | ⟨he, hat, hat2⟩
            · have hu : updM m j v k' = v := by unfold updM; rw [if_pos he]
              have HU := Lib.hid hu
              clear hu he hI hy
              rcases hin with ⟨ha, hx⟩ | ⟨ha, hb, hx⟩ | ⟨ha, hb, hx⟩
              all_goals
                have HX := Lib.hid hx
                clear hx
                go_wp2_with (first
                  | (go_at_call 11; with_reducible refine (load_at _ b g 16 c1 m _ k' HM6.out (by have := HI.out; omega) i4).mono ?_; rw [HY.out]; rintro e w7 ⟨rfl, rfl⟩)
                  | (go_at_call 11; with_reducible refine (load_at _ b2 g2 16 c2 _ _ k' HC6.out (by have := HI.out; omega) i4).mono ?_; rw [HU.out]; rintro e w7 ⟨rfl, rfl⟩)
                  | (go_at_call 11; with_reducible refine (load_at _ b5 g5 16 c5 _ _ k' HD6.out (by have := HI.out; omega) i4).mono ?_; rw [HX.out]; rintro e w7 ⟨rfl, rfl⟩))
                go_round
                case rel => exact ⟨k' + 1, by omega, (by have h1 := HI.out; first | exact congrArg (Value.int .u64) (by omega) | (have h2 := beq_iff_eq.1 hat; exact congrArg (Value.int .u64) (by omega)))⟩
                case measure => have := HI.out; simp [intOf]; omega
            · have hu : updM m j v k' = y := by unfold updM; rw [if_neg he]; exact hy
              have HU := Lib.hid hu
              clear hu he hI hy
              rcases hin with ⟨ha, hx⟩ | ⟨ha, hb, hx⟩ | ⟨ha, hb, hx⟩
              all_goals
                have HX := Lib.hid hx
                clear hx
                go_wp2_with (first
                  | (go_at_call 11; with_reducible refine (load_at _ b g 16 c1 m _ k' HM6.out (by have := HI.out; omega) i4).mono ?_; rw [HY.out]; rintro e w7 ⟨rfl, rfl⟩)
                  | (go_at_call 11; with_reducible refine (load_at _ b2 g2 16 c2 _ _ k' HC6.out (by have := HI.out; omega) i4).mono ?_; rw [HU.out]; rintro e w7 ⟨rfl, rfl⟩)
                  | (go_at_call 11; with_reducible refine (load_at _ b5 g5 16 c5 _ _ k' HD6.out (by have := HI.out; omega) i4).mono ?_; rw [HX.out]; rintro e w7 ⟨rfl, rfl⟩))
                go_round
                case rel => exact ⟨k' + 1, by omega, (by have h1 := HI.out; first | exact congrArg (Value.int .u64) (by omega) | (have h2 := beq_iff_eq.1 hat; exact congrArg (Value.int .u64) (by omega)))⟩
                case measure => have := HI.out; simp [intOf]; omega
          · obtain rfl : k' = 128 := by omega
            rw [show (8 : Int) * ((128 : Nat) : Int) = 1024 from rfl]
            go_wp2_with (first
              | (go_at_call 7; refine (awake2 _).mono ?_; rintro e w8 ⟨rfl, hb8⟩))
            go_ret
            exact ⟨by first | (simp; done) | (simp; omega), bgo hB6 hb8⟩
      · have hz : zeroR m fq nq = (m, 3) := by unfold zeroR; rw [if_neg (by omega)]
        have HZ := Lib.hid hz
        clear hz
        go_wp2_with (first
          | (go_at_call 13; refine (store_at _ b2 g2 16 c2 m _ j v HC2.out (by have := HJ.out; omega) j4 HV0.out).mono ?_; rintro e w3 ⟨rfl, hm3, ho3⟩; have HC3 := Lib.hid hm3; have HM3 := Lib.hid (ho3.mem HM2.out (by omega) (by omega)); have hB3 : Below W.heap.size W w3 := (hB2.trans (ho3.below (by omega) lg2)); have hs3 := ho3.size; clear hm3)
          | (go_at_call 23; with_reducible refine (low_any f0 16 _ HF0.out (by decide) (by decide)).mono ?_; rw [HFQ.out]; rintro e w4 ⟨rfl, rfl⟩)
          | (go_at_call 23; with_reducible refine (low_any n0 4 _ HN0.out (by decide) (by decide)).mono ?_; rw [HNQ.out]; rintro e w4 ⟨rfl, rfl⟩)
          | (go_at_call 21; refine (copy_any _ b g 16 c1 m HM3.out).mono ?_; rintro e w5 ⟨b5, g5, c5, rfl, hm5, hb5, hg5, hw5⟩; have HD5 := Lib.hid hm5; have HM5 := Lib.hid (HM3.out.call hw5); have HC5 := Lib.hid (HC3.out.call hw5); have hB5 : Below W.heap.size W w5 := bgo hB3 hw5; have lb5 := hm5.lb; have lg5 := hm5.lg; clear hm5)
          | (go_at_call 15; refine (zero16 _ b5 g5 c5 fq nq m HD5.out (by omega)).mono ?_; rw [HZ.out]; rintro e w6 ⟨rfl, hm6, ho6⟩; have HD6 := Lib.hid hm6; have HM6 := Lib.hid (ho6.mem HM5.out (by omega) (by omega)); have HC6 := Lib.hid (ho6.mem HC5.out (by omega) (by omega)); have hB6 : Below W.heap.size W w6 := (hB5.trans (ho6.below (by omega) lg5)); clear hm6))
        go_loop [18] (fun i => ∃ k : Nat, k ≤ 128 ∧ i = .int .u64 (8 * (k : Int))) (fun i => 1024 - (intOf i).toNat)
        case atStart => exact ⟨0, by omega, by simp⟩
        case round =>
          obtain ⟨k', hk', rfl⟩ := hrel
          by_cases hlk : k' < 128
          · obtain ⟨I, hI⟩ : ∃ I : Int, 8 * (k' : Int) = I := ⟨_, rfl⟩
            rw [hI]
            have i0 : 0 ≤ I := by omega
            have i1 : I < 1024 := by omega
            have i2 : 0 ≤ I / 64 := by omega
            have i3 : I / 64 < 16 := by omega
            have i4 : k' < 8 * 16 := by omega
            have hAt : (k' = j ∧ (I == ad % 1024 / 8 * 8) = true ∧ (I != ad % 1024 / 8 * 8) = false) ∨ (k' ≠ j ∧ (I == ad % 1024 / 8 * 8) = false ∧ (I != ad % 1024 / 8 * 8) = true) := by
              have := HJ.out
              by_cases e : k' = j
              · exact .inl ⟨e, beq_iff_eq.2 (by omega), bne_eq_false_iff_eq.2 (by omega)⟩
              · exact .inr ⟨e, beq_eq_false_iff_ne.2 (by omega), bne_iff_ne.2 (by omega)⟩
            obtain ⟨y, hy⟩ : ∃ y, m k' = y := ⟨_, rfl⟩
            have HY := Lib.hid hy
            have HX := Lib.hid hy
            have HI := Lib.hid hI
            rcases hAt with ⟨he, hat, hat2⟩ | ⟨he, hat, hat2⟩
            · have hu : updM m j v k' = v := by unfold updM; rw [if_pos he]
              have HU := Lib.hid hu
              clear hu he hI hy
              go_wp2_with (first
                | (go_at_call 11; with_reducible refine (load_at _ b g 16 c1 m _ k' HM6.out (by have := HI.out; omega) i4).mono ?_; rw [HY.out]; rintro e w7 ⟨rfl, rfl⟩)
                | (go_at_call 11; with_reducible refine (load_at _ b2 g2 16 c2 _ _ k' HC6.out (by have := HI.out; omega) i4).mono ?_; rw [HU.out]; rintro e w7 ⟨rfl, rfl⟩)
                | (go_at_call 11; with_reducible refine (load_at _ b5 g5 16 c5 _ _ k' HD6.out (by have := HI.out; omega) i4).mono ?_; rw [HX.out]; rintro e w7 ⟨rfl, rfl⟩))
              go_round
              case rel => exact ⟨k' + 1, by omega, (by have h1 := HI.out; first | exact congrArg (Value.int .u64) (by omega) | (have h2 := beq_iff_eq.1 hat; exact congrArg (Value.int .u64) (by omega)))⟩
              case measure => have := HI.out; simp [intOf]; omega
            · have hu : updM m j v k' = y := by unfold updM; rw [if_neg he]; exact hy
              have HU := Lib.hid hu
              clear hu he hI hy
              go_wp2_with (first
                | (go_at_call 11; with_reducible refine (load_at _ b g 16 c1 m _ k' HM6.out (by have := HI.out; omega) i4).mono ?_; rw [HY.out]; rintro e w7 ⟨rfl, rfl⟩)
                | (go_at_call 11; with_reducible refine (load_at _ b2 g2 16 c2 _ _ k' HC6.out (by have := HI.out; omega) i4).mono ?_; rw [HU.out]; rintro e w7 ⟨rfl, rfl⟩)
                | (go_at_call 11; with_reducible refine (load_at _ b5 g5 16 c5 _ _ k' HD6.out (by have := HI.out; omega) i4).mono ?_; rw [HX.out]; rintro e w7 ⟨rfl, rfl⟩))
              go_round
              case rel => exact ⟨k' + 1, by omega, (by have h1 := HI.out; first | exact congrArg (Value.int .u64) (by omega) | (have h2 := beq_iff_eq.1 hat; exact congrArg (Value.int .u64) (by omega)))⟩
              case measure => have := HI.out; simp [intOf]; omega
          · obtain rfl : k' = 128 := by omega
            rw [show (8 : Int) * ((128 : Nat) : Int) = 1024 from rfl]
            go_wp2_with (first
              | (go_at_call 7; refine (awake2 _).mono ?_; rintro e w8 ⟨rfl, hb8⟩))
            go_ret
            exact ⟨by first | (simp; done) | (simp; omega), bgo hB6 hb8⟩
end Go.Proofs.Ytnaiepoaikabgaa
