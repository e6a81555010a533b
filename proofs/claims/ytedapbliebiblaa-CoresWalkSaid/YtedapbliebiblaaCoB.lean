/- The law CoresWalk. -/
import Derived.Test.YtedapbliebiblaaCoA
import Derived.StillTailTactics
namespace Go.Proofs.Ytedapbliebiblaa
set_option linter.unusedVariables false
set_option linter.unusedSimpArgs false
open Go.ChangeShapes Go.WideShapes Go.ChangeAt Go.RowKit Go.Shelf

abbrev m0 : Nat → Int := updM (updM (fun _ => 0) 0 257) 8 513
theorem chain_m0 : ChainM m0 := ⟨by decide, by decide⟩
set_option maxRecDepth 100000 in
set_option maxHeartbeats 8000000 in
theorem walk_coresWalk {W : World} (p : Option Addr) (n c : Nat) (hx : n ≤ c ∧ c ≤ maxLen ∧ ∃ D, ActsAt W p n D) :
    Calls Try.prog 4 #[.slice p n c] W fun e w' => e = .returned (.bool true) ∧ Below W.heap.size W w' := by
  obtain ⟨h1, h2, D, pb, off, hp, hD⟩ := hx
  unfold maxLen at h2
  have HD := Lib.hid hD
  have HP := Lib.hid hp
  clear hD hp
  by_cases hn : 60 < n
  · go_enter Try.func4, Try.ntmps4
    go_wp2_with (first
      | (go_at_call 9; refine (awake7 _).mono ?_; rintro e w3 ⟨rfl, hb3⟩))
    go_ret
    exact ⟨rfl, hb3⟩
  have hn1 : n ≤ 60 := by omega
  clear hn
  have hv257 : WordI 257 := ⟨by decide, by decide⟩
  have hv513 : WordI 513 := ⟨by decide, by decide⟩
  go_enter Try.func4, Try.ntmps4
  go_wp2_with (fail)
  refine (cnew_ok _ 2 (by decide) (by decide)).mono ?_
  rintro e w1 ⟨b, g, T, rfl, hc1, hb1, hg1, ht1, hw1⟩
  have HI := Lib.hid hc1.within
  have HC1 := Lib.hid hc1
  have HT1 := Lib.hid ht1
  clear hc1 ht1
  go_wp2_with (fail)
  refine (new_ok _ 8 (by decide) (by decide)).mono ?_
  rintro e w2 ⟨mb, mg, mc, rfl, hm2, hb2, hg2, hw2⟩
  have HM2 := Lib.hid hm2
  have HC2 := Lib.hid (HC1.out.call hw2)
  have lmg := hm2.lg
  clear hm2
  go_wp2_with (first
    | (go_at_call 15; with_reducible refine (store_at w2 mb mg 8 mc _ 0 0 257 HM2.out (by decide) (by decide) hv257).mono ?_; rintro e w4 ⟨rfl, hm4, ho4⟩; have HM4 := Lib.hid hm4; have HO4 := Lib.hid ho4; have HC4 := Lib.hid (HC2.out.blkIn ho4 HI.out hg2); clear hm4 ho4)
    | (go_at_call 15; with_reducible refine (store_at w4 mb mg 8 mc _ 64 8 513 HM4.out (by decide) (by decide) hv513).mono ?_; rintro e w5 ⟨rfl, hm5, ho5⟩; have HM5 := Lib.hid hm5; have HO5 := Lib.hid ho5; have HC5 := Lib.hid (HC4.out.blkIn ho5 HI.out hg2); clear hm5 ho5)
    | (go_at_call 19; refine (cset_some w6 b g 2 2 1 _ _ T _ 0 1 HC6.out (by decide) (by decide) (by decide) (by decide)).mono ?_; rintro e w7 ⟨rfl, hc7, ho7⟩; have HC7 := Lib.hid hc7; have HO7 := Lib.hid ho7; have HM7 := Lib.hid (ho7.mem HM6.out (by have := HI.out.g; omega) (by have := HI.out.g; omega)); clear hc7 ho7)
    | (go_at_call 19; refine (cset_some w5 b g 2 2 0 _ _ T _ 0 1 HC5.out (by decide) (by decide) (by decide) (by decide)).mono ?_; rintro e w6 ⟨rfl, hc6, ho6⟩; have HC6 := Lib.hid hc6; have HO6 := Lib.hid ho6; have HM6 := Lib.hid (ho6.mem HM5.out (by have := HI.out.g; omega) (by have := HI.out.g; omega)); clear hc6 ho6))
  have B2 := bgo hw1 hw2
  have lg2 : g < w2.heap.size := HC2.out.lg
  have B4 := B2.trans (HO4.out.below (by have := hw1.size; omega) (by omega))
  have B5 := B4.trans (HO5.out.below (by have := hw1.size; omega) (by have := HO4.out.size; omega))
  have B6 := B5.trans (HO6.out.below hg1 (by have := HO4.out.size; have := HO5.out.size; omega))
  have B7 := B6.trans (HO7.out.below hg1 (by have := HO4.out.size; have := HO5.out.size; have := HO6.out.size; omega))
  have hTm : ∀ i, i < 2 → T i ≠ mb ∧ T i ≠ mg := fun i hi => by have := HI.out.T i hi; omega
  have hgC : w1.heap.size ≤ mg := hg2
  have hgW : W.heap.size ≤ mg := by have := hw1.size; omega
  obtain ⟨R, hR⟩ : ∃ R, setR (setR (fun _ => -1) 0 0) 1 0 = R := ⟨_, rfl⟩
  obtain ⟨Q, hQ⟩ : ∃ Q, setR (setR (fun _ => 0) 0 1) 1 1 = Q := ⟨_, rfl⟩
  have hR0 : ∀ i, i < 2 → R i = 0 := fun i hi => by
    obtain rfl | rfl : i = 0 ∨ i = 1 := by omega
    all_goals (rw [← hR]; rfl)
  have hQ0 : ∀ i, i < 2 → Q i = 1 := fun i hi => by
    obtain rfl | rfl : i = 0 ∨ i = 1 := by omega
    all_goals (rw [← hQ]; rfl)
  have hc7 := HC7.out
  rw [hR, hQ] at hc7
  have HV0 : Hid (WalkInv W w7 b g R Q T mb mg mc (fun _ => S0) m0) := Lib.hid ⟨hc7, HM7.out, chain_m0, fun _ _ => ck_S0 _, B7, HT1.out⟩
  clear hc7
  have HR0 := Lib.hid hR0
  have HQ0 := Lib.hid hQ0
  have HTM := Lib.hid hTm
  clear hR hQ hR0 hQ0 hTm HC1 HC2 HC4 HC5 HC6 HC7 HM2 HM4 HM5 HM6 HM7 HO4 HO5 HO6 HO7 B2 B4 B5 B6 B7 lg2 lmg hw1 hw2 HT1 hb1 hg1 hb2 hg2 hv257 hv513
  go_loopw [7] (fun i wr => ∃ (k : Nat) (S : Nat → TS) (M : Nat → Int), k ≤ n ∧ i = .int .i64 k ∧ Hid (WalkInv W wr b g R Q T mb mg mc S M)) (fun i _ => n - (intOf i).toNat)
  case atStart => exact ⟨0, _, _, by omega, rfl, HV0⟩
  case round =>
    clear HV0
    obtain ⟨k, S, M, hk, rfl, HV⟩ := hrel
    by_cases hlt : k < n
    · obtain ⟨hp1, hp2⟩ := HP.out (by omega)
      obtain ⟨hc, hok⟩ := HD.out k hlt
      obtain ⟨⟨d, co, ro, sp, pg, st, wy, ad, v⟩, hdk⟩ : ∃ x, D k = x := ⟨_, rfl⟩
      rw [hdk] at hc hok
      clear hdk
      have HCW := Lib.hid hc
      have hcr : ActCells wr pb (off + k * 9) ⟨d, co, ro, sp, pg, st, wy, ad, v⟩ := act_keep HV.out.bel hp2 HCW.out
      obtain ⟨c0, c1, c2, c3, c4, c5, c6, c7, c8⟩ := hcr
      have HPG := Lib.hid hok.pg
      have HVV := Lib.hid hok.v
      clear hc hok c7
      subst hp1
      obtain ⟨K, hK2, hK⟩ := and1_i64 co
      have hK2' := Lib.hid hK2
      clear hK2
      have q0 := lowI_0 pg 8 (by decide)
      have q1 := lowI_1 pg 8 (by decide)
      obtain ⟨P, hP⟩ : ∃ q : Nat, lowI pg 8 = q := ⟨(lowI pg 8).toNat, by omega⟩
      rw [hP] at q0 q1
      have HPQ := Lib.hid hP
      clear hP
      have r0 := lowI_0 (wrap64 (st + pg)) 8 (by decide)
      have r1 := lowI_1 (wrap64 (st + pg)) 8 (by decide)
      obtain ⟨qq, hqq⟩ : ∃ q : Int, lowI (wrap64 (st + pg)) 8 = q := ⟨_, rfl⟩
      rw [hqq] at r0 r1
      have HQQ := Lib.hid hqq
      have HWR := Lib.hid (wrap_i64_in (st + pg))
      clear hqq
      by_cases d6 : d = 6
      · subst d6
        go_wp2_with (first
          | (go_at_call 20; refine (low_any pg 8 _ HPG.out (by decide) (by decide)).mono ?_; rw [HPQ.out]; rintro e w1 ⟨rfl, rfl⟩)
          | (go_at_call 15; refine (store_at wr mb mg 8 mc M _ (16 + P) v HV.out.mem (by omega) (by omega) HVV.out).mono ?_; rintro e w2 ⟨rfl, hm2, ho2⟩; have HM2 := Lib.hid hm2; have HO2 := Lib.hid ho2; have HC2 := Lib.hid (HV.out.cores.blkIn ho2 HI.out hgC); clear hm2 ho2)
          | (go_at_call 21; refine (callsIn_wide.1 (cdropP_in _ b g 2 2 R Q T S 1 (P : Int) HC2.out)).mono ?_; rintro e wt ⟨rfl, hct, hot⟩; have HVT := Lib.hid (HV.out.dropped HTM.out hgW HM2.out HO2.out hct hot); obtain ⟨y0, y1, y2, y3, y4, y5, y6, y7, y8⟩ := act_keep HVT.out.bel hp2 HCW.out; clear hct hot))
        obtain ⟨S2, hS2⟩ : ∃ S2, (dropL S (pageOut 1 (P : Int)) (frs 2 2)).1 = S2 := ⟨_, rfl⟩
        obtain ⟨M2, hM2⟩ : ∃ M2, updM M (16 + P) v = M2 := ⟨_, rfl⟩
        rw [hS2, hM2] at HVT
        clear hS2 hM2 c0 c1 c2 c3 c4 c5 c6 c8 HM2 HO2 HC2 HV y0 y1 y2 y3 y4 y5 y6 y7 y8
        have HVD : Hid (WalkInv W wt.drew b g R Q T mb mg mc S2 M2) := Lib.hid (HVT.out.blk (Below.refl _ _).drew)
        have hcr := act_keep HVT.out.bel hp2 HCW.out
        obtain ⟨t0, t1, t2, t3, t4, t5, t6, t7, t8⟩ := hcr
        go_still_tail 11, (by kernel_rfl)
        change wpList _ _ _ _ _ wt.drew
        have u1 : wt.drew.cell? ⟨pb, off + k * 9 + 1, none⟩ = some (.int .i64 co) := t1
        generalize wt.drew = wd at *
        obtain ⟨⟨⟨x, hit, cd⟩, s'⟩, hz⟩ : ∃ z, transF 8 M2 0 1 qq (S2 K) = z := ⟨_, rfl⟩
        have hck := ck_trans (HVD.out.ok K hK2'.out) r0 r1
        have hsay := trans_says (HVD.out.ok K hK2'.out) r0 r1
        rw [hz] at hck hsay
        simp only at hck hsay
        have HZ := Lib.hid hz
        have HCK := Lib.hid hck
        obtain ⟨hcd, hxx⟩ := hsay
        by_cases hw : walkC 8 M2 0 qq = 0
        · have hx := hxx hw
          rw [hw] at hcd
          rw [leafT_chain HVD.out.chain r0 r1] at hx
          have hWk := fun w (hM : MemAt w mb mg 8 mc M2) => walk_ok w mb mg 8 mc M2 0 qq hM hw
          rw [leafW_chain HVD.out.chain r0 r1, entW_form] at hWk
          have HWK := Lib.hid hWk
          subst hcd hx
          obtain ⟨fr, hfr⟩ : ∃ f : Int, ((leafM M2 qq / 256 % 64 : Nat) : Int) = f := ⟨_, rfl⟩
          obtain ⟨b1, hb1⟩ : ∃ b1, (leafM M2 qq).testBit 1 = b1 := ⟨_, rfl⟩
          obtain ⟨b2, hb2⟩ : ∃ b1, (leafM M2 qq).testBit 2 = b1 := ⟨_, rfl⟩
          obtain ⟨b3, hb3⟩ : ∃ b1, (leafM M2 qq).testBit 3 = b1 := ⟨_, rfl⟩
          rw [hfr, hb1, hb2, hb3] at HWK
          rw [hfr, hb2, hb3] at HZ
          clear hfr hb1 hb2 hb3 hxx hck hz hWk hw t0 t1 t2 t3 t4 t5 t6 t7 t8
          go_wp2_with (first
            | (go_at_call 20; refine (low_any (wrap64 (st + pg)) 8 _ HWR.out (by decide) (by decide)).mono ?_; rw [HQQ.out]; rintro e w2 ⟨rfl, rfl⟩)
            | (go_at_call 24; refine (ctr01 _ b g 2 2 K R Q T S2 mb mg mc M2 qq _ hit 0 s' HVD.out.cores hK2'.out HVD.out.mem (HR0.out K hK2'.out) (HQ0.out K hK2'.out) r0 r1 HZ.out).mono ?_; rintro e w7 ⟨rfl, hc7, ho7⟩; have HV7 := Lib.hid (HVD.out.turn hK2'.out HTM.out hc7 ho7 HCK.out); clear hc7 ho7)
            | (go_at_call 25; refine (HWK.out _ (HV7.out.mem.call (bal (Below.refl _ _) _))).mono ?_; rintro e w8 ⟨rfl, hb8⟩; obtain ⟨x0, x1, x2, x3, x4⟩ := (tr_new w7 ⟨1, qq, fr, b2, b3⟩).keep (by simp) hb8; have s8 : w7.heap.size < w8.heap.size := (Nat.lt_of_lt_of_le (by simp) hb8.size)))
          go_roundw
          case rel => exact ⟨k + 1, _, _, by omega, by go_num, Lib.hid (HV7.out.blk (bal (bgo (bal (Below.refl _ _) _) hb8) _))⟩
          case measure => simp [intOf]; omega
        · have hcz : (cd == 0) = false := beq_eq_false_iff_ne.2 (by rw [hcd]; exact hw)
          have hWk := fun w (hM : MemAt w mb mg 8 mc M2) => walk_no w mb mg 8 mc M2 0 qq cd hM hcd.symm (by rw [hcd]; exact hw)
          have HWK := Lib.hid hWk
          obtain ⟨xs, xp, xf, xr, xw⟩ := x
          clear hxx hck hz hWk hw hcd t0 t1 t2 t3 t4 t5 t6 t7 t8
          go_wp2_with (first
            | (go_at_call 20; refine (low_any (wrap64 (st + pg)) 8 _ HWR.out (by decide) (by decide)).mono ?_; rw [HQQ.out]; rintro e w2 ⟨rfl, rfl⟩)
            | (go_at_call 24; refine (ctr01 _ b g 2 2 K R Q T S2 mb mg mc M2 qq _ hit cd s' HVD.out.cores hK2'.out HVD.out.mem (HR0.out K hK2'.out) (HQ0.out K hK2'.out) r0 r1 HZ.out).mono ?_; rintro e w7 ⟨rfl, hc7, ho7⟩; have HV7 := Lib.hid (HVD.out.turn hK2'.out HTM.out hc7 ho7 HCK.out); clear hc7 ho7)
            | (go_at_call 25; refine (HWK.out _ (HV7.out.mem.call (bal (Below.refl _ _) _))).mono ?_; rintro e w8 ⟨rfl, hb8⟩))
          go_roundw
          case rel => exact ⟨k + 1, _, _, by omega, by go_num, Lib.hid (HV7.out.blk (bal (bgo (bal (Below.refl _ _) _) hb8) _))⟩
          case measure => simp [intOf]; omega
      by_cases d2 : d = 2
      · subst d2
        clear d6
        obtain ⟨s1, hs1⟩ : ∃ s1, (transF 8 M 0 1 (P : Int) (S K)).2 = s1 := ⟨_, rfl⟩
        have hck1 : CacheOk M s1 := hs1 ▸ ck_trans (HV.out.ok K hK2'.out) (by omega) (by omega)
        have HS1 := Lib.hid hs1
        clear hs1
        go_wp2_with (first
          | (go_at_call 20; refine (low_any pg 8 _ HPG.out (by decide) (by decide)).mono ?_; rw [HPQ.out]; rintro e w1 ⟨rfl, rfl⟩)
          | (go_at_call 22; refine (cpf01 wr b g 2 2 K R Q T S mb mg mc M (P : Int) s1 HV.out.cores hK2'.out HV.out.mem (HR0.out K hK2'.out) (HQ0.out K hK2'.out) (by omega) (by omega) HS1.out).mono ?_; rintro e wt ⟨⟨vb, rfl⟩, hct, hot⟩; have HVT := Lib.hid (HV.out.turn hK2'.out HTM.out hct hot hck1); obtain ⟨y0, y1, y2, y3, y4, y5, y6, y7, y8⟩ := act_keep HVT.out.bel hp2 HCW.out; clear hct hot))
        obtain ⟨S2, hS2⟩ : ∃ S2, setT S K s1 = S2 := ⟨_, rfl⟩
        obtain ⟨M2, hM2⟩ : ∃ M2, M = M2 := ⟨_, rfl⟩
        rw [hS2, hM2] at HVT
        clear hS2 hM2 c0 c1 c2 c3 c4 c5 c6 c8 HV HS1 hck1 y0 y1 y2 y3 y4 y5 y6 y7 y8
        have HVD : Hid (WalkInv W wt.drew b g R Q T mb mg mc S2 M2) := Lib.hid (HVT.out.blk (Below.refl _ _).drew)
        have hcr := act_keep HVT.out.bel hp2 HCW.out
        obtain ⟨t0, t1, t2, t3, t4, t5, t6, t7, t8⟩ := hcr
        go_still_tail 11, (by kernel_rfl)
        change wpList _ _ _ _ _ wt.drew
        have u1 : wt.drew.cell? ⟨pb, off + k * 9 + 1, none⟩ = some (.int .i64 co) := t1
        generalize wt.drew = wd at *
        obtain ⟨⟨⟨x, hit, cd⟩, s'⟩, hz⟩ : ∃ z, transF 8 M2 0 1 qq (S2 K) = z := ⟨_, rfl⟩
        have hck := ck_trans (HVD.out.ok K hK2'.out) r0 r1
        have hsay := trans_says (HVD.out.ok K hK2'.out) r0 r1
        rw [hz] at hck hsay
        simp only at hck hsay
        have HZ := Lib.hid hz
        have HCK := Lib.hid hck
        obtain ⟨hcd, hxx⟩ := hsay
        by_cases hw : walkC 8 M2 0 qq = 0
        · have hx := hxx hw
          rw [hw] at hcd
          rw [leafT_chain HVD.out.chain r0 r1] at hx
          have hWk := fun w (hM : MemAt w mb mg 8 mc M2) => walk_ok w mb mg 8 mc M2 0 qq hM hw
          rw [leafW_chain HVD.out.chain r0 r1, entW_form] at hWk
          have HWK := Lib.hid hWk
          subst hcd hx
          obtain ⟨fr, hfr⟩ : ∃ f : Int, ((leafM M2 qq / 256 % 64 : Nat) : Int) = f := ⟨_, rfl⟩
          obtain ⟨b1, hb1⟩ : ∃ b1, (leafM M2 qq).testBit 1 = b1 := ⟨_, rfl⟩
          obtain ⟨b2, hb2⟩ : ∃ b1, (leafM M2 qq).testBit 2 = b1 := ⟨_, rfl⟩
          obtain ⟨b3, hb3⟩ : ∃ b1, (leafM M2 qq).testBit 3 = b1 := ⟨_, rfl⟩
          rw [hfr, hb1, hb2, hb3] at HWK
          rw [hfr, hb2, hb3] at HZ
          clear hfr hb1 hb2 hb3 hxx hck hz hWk hw t0 t1 t2 t3 t4 t5 t6 t7 t8
          go_wp2_with (first
            | (go_at_call 20; refine (low_any (wrap64 (st + pg)) 8 _ HWR.out (by decide) (by decide)).mono ?_; rw [HQQ.out]; rintro e w2 ⟨rfl, rfl⟩)
            | (go_at_call 24; refine (ctr01 _ b g 2 2 K R Q T S2 mb mg mc M2 qq _ hit 0 s' HVD.out.cores hK2'.out HVD.out.mem (HR0.out K hK2'.out) (HQ0.out K hK2'.out) r0 r1 HZ.out).mono ?_; rintro e w7 ⟨rfl, hc7, ho7⟩; have HV7 := Lib.hid (HVD.out.turn hK2'.out HTM.out hc7 ho7 HCK.out); clear hc7 ho7)
            | (go_at_call 25; refine (HWK.out _ (HV7.out.mem.call (bal (Below.refl _ _) _))).mono ?_; rintro e w8 ⟨rfl, hb8⟩; obtain ⟨x0, x1, x2, x3, x4⟩ := (tr_new w7 ⟨1, qq, fr, b2, b3⟩).keep (by simp) hb8; have s8 : w7.heap.size < w8.heap.size := (Nat.lt_of_lt_of_le (by simp) hb8.size)))
          go_roundw
          case rel => exact ⟨k + 1, _, _, by omega, by go_num, Lib.hid (HV7.out.blk (bal (bgo (bal (Below.refl _ _) _) hb8) _))⟩
          case measure => simp [intOf]; omega
        · have hcz : (cd == 0) = false := beq_eq_false_iff_ne.2 (by rw [hcd]; exact hw)
          have hWk := fun w (hM : MemAt w mb mg 8 mc M2) => walk_no w mb mg 8 mc M2 0 qq cd hM hcd.symm (by rw [hcd]; exact hw)
          have HWK := Lib.hid hWk
          obtain ⟨xs, xp, xf, xr, xw⟩ := x
          clear hxx hck hz hWk hw hcd t0 t1 t2 t3 t4 t5 t6 t7 t8
          go_wp2_with (first
            | (go_at_call 20; refine (low_any (wrap64 (st + pg)) 8 _ HWR.out (by decide) (by decide)).mono ?_; rw [HQQ.out]; rintro e w2 ⟨rfl, rfl⟩)
            | (go_at_call 24; refine (ctr01 _ b g 2 2 K R Q T S2 mb mg mc M2 qq _ hit cd s' HVD.out.cores hK2'.out HVD.out.mem (HR0.out K hK2'.out) (HQ0.out K hK2'.out) r0 r1 HZ.out).mono ?_; rintro e w7 ⟨rfl, hc7, ho7⟩; have HV7 := Lib.hid (HVD.out.turn hK2'.out HTM.out hc7 ho7 HCK.out); clear hc7 ho7)
            | (go_at_call 25; refine (HWK.out _ (HV7.out.mem.call (bal (Below.refl _ _) _))).mono ?_; rintro e w8 ⟨rfl, hb8⟩))
          go_roundw
          case rel => exact ⟨k + 1, _, _, by omega, by go_num, Lib.hid (HV7.out.blk (bal (bgo (bal (Below.refl _ _) _) hb8) _))⟩
          case measure => simp [intOf]; omega
      by_cases d3 : d = 3
      · subst d3
        clear d6 d2
        go_wp2_with (first
          | (go_at_call 20; refine (low_any pg 8 _ HPG.out (by decide) (by decide)).mono ?_; rw [HPQ.out]; rintro e w1 ⟨rfl, rfl⟩))
        go_still_tail 17, (by kernel_rfl)
        change wpList _ _ _ _ _ wr.drew
        have HVD0 : Hid (WalkInv W wr.drew b g R Q T mb mg mc S M) := Lib.hid (HV.out.blk (Below.refl _ _).drew)
        generalize wr.drew = wd0 at *
        go_wp2_with (first
          | (go_at_call 23; refine (cevict_ok _ b g 2 2 K R Q T S st wy HVD0.out.cores hK2'.out).mono ?_; rintro e wt ⟨rfl, hct, hot⟩; have HVT := Lib.hid (HVD0.out.turn hK2'.out HTM.out hct hot (ck_evict (HVD0.out.ok K hK2'.out) st wy)); clear hct hot))
        obtain ⟨S2, hS2⟩ : ∃ S2, setT S K (evictS (S K) st wy).1 = S2 := ⟨_, rfl⟩
        obtain ⟨M2, hM2⟩ : ∃ M2, M = M2 := ⟨_, rfl⟩
        rw [hS2, hM2] at HVT
        clear hS2 hM2 c0 c1 c2 c3 c4 c5 c6 c8 HV HVD0
        have HVD : Hid (WalkInv W wt.drew b g R Q T mb mg mc S2 M2) := Lib.hid (HVT.out.blk (Below.refl _ _).drew)
        have hcr := act_keep HVT.out.bel hp2 HCW.out
        obtain ⟨t0, t1, t2, t3, t4, t5, t6, t7, t8⟩ := hcr
        go_still_tail 11, (by kernel_rfl)
        change wpList _ _ _ _ _ wt.drew
        have u1 : wt.drew.cell? ⟨pb, off + k * 9 + 1, none⟩ = some (.int .i64 co) := t1
        generalize wt.drew = wd at *
        obtain ⟨⟨⟨x, hit, cd⟩, s'⟩, hz⟩ : ∃ z, transF 8 M2 0 1 qq (S2 K) = z := ⟨_, rfl⟩
        have hck := ck_trans (HVD.out.ok K hK2'.out) r0 r1
        have hsay := trans_says (HVD.out.ok K hK2'.out) r0 r1
        rw [hz] at hck hsay
        simp only at hck hsay
        have HZ := Lib.hid hz
        have HCK := Lib.hid hck
        obtain ⟨hcd, hxx⟩ := hsay
        by_cases hw : walkC 8 M2 0 qq = 0
        · have hx := hxx hw
          rw [hw] at hcd
          rw [leafT_chain HVD.out.chain r0 r1] at hx
          have hWk := fun w (hM : MemAt w mb mg 8 mc M2) => walk_ok w mb mg 8 mc M2 0 qq hM hw
          rw [leafW_chain HVD.out.chain r0 r1, entW_form] at hWk
          have HWK := Lib.hid hWk
          subst hcd hx
          obtain ⟨fr, hfr⟩ : ∃ f : Int, ((leafM M2 qq / 256 % 64 : Nat) : Int) = f := ⟨_, rfl⟩
          obtain ⟨b1, hb1⟩ : ∃ b1, (leafM M2 qq).testBit 1 = b1 := ⟨_, rfl⟩
          obtain ⟨b2, hb2⟩ : ∃ b1, (leafM M2 qq).testBit 2 = b1 := ⟨_, rfl⟩
          obtain ⟨b3, hb3⟩ : ∃ b1, (leafM M2 qq).testBit 3 = b1 := ⟨_, rfl⟩
          rw [hfr, hb1, hb2, hb3] at HWK
          rw [hfr, hb2, hb3] at HZ
          clear hfr hb1 hb2 hb3 hxx hck hz hWk hw t0 t1 t2 t3 t4 t5 t6 t7 t8
          go_wp2_with (first
            | (go_at_call 20; refine (low_any (wrap64 (st + pg)) 8 _ HWR.out (by decide) (by decide)).mono ?_; rw [HQQ.out]; rintro e w2 ⟨rfl, rfl⟩)
            | (go_at_call 24; refine (ctr01 _ b g 2 2 K R Q T S2 mb mg mc M2 qq _ hit 0 s' HVD.out.cores hK2'.out HVD.out.mem (HR0.out K hK2'.out) (HQ0.out K hK2'.out) r0 r1 HZ.out).mono ?_; rintro e w7 ⟨rfl, hc7, ho7⟩; have HV7 := Lib.hid (HVD.out.turn hK2'.out HTM.out hc7 ho7 HCK.out); clear hc7 ho7)
            | (go_at_call 25; refine (HWK.out _ (HV7.out.mem.call (bal (Below.refl _ _) _))).mono ?_; rintro e w8 ⟨rfl, hb8⟩; obtain ⟨x0, x1, x2, x3, x4⟩ := (tr_new w7 ⟨1, qq, fr, b2, b3⟩).keep (by simp) hb8; have s8 : w7.heap.size < w8.heap.size := (Nat.lt_of_lt_of_le (by simp) hb8.size)))
          go_roundw
          case rel => exact ⟨k + 1, _, _, by omega, by go_num, Lib.hid (HV7.out.blk (bal (bgo (bal (Below.refl _ _) _) hb8) _))⟩
          case measure => simp [intOf]; omega
        · have hcz : (cd == 0) = false := beq_eq_false_iff_ne.2 (by rw [hcd]; exact hw)
          have hWk := fun w (hM : MemAt w mb mg 8 mc M2) => walk_no w mb mg 8 mc M2 0 qq cd hM hcd.symm (by rw [hcd]; exact hw)
          have HWK := Lib.hid hWk
          obtain ⟨xs, xp, xf, xr, xw⟩ := x
          clear hxx hck hz hWk hw hcd t0 t1 t2 t3 t4 t5 t6 t7 t8
          go_wp2_with (first
            | (go_at_call 20; refine (low_any (wrap64 (st + pg)) 8 _ HWR.out (by decide) (by decide)).mono ?_; rw [HQQ.out]; rintro e w2 ⟨rfl, rfl⟩)
            | (go_at_call 24; refine (ctr01 _ b g 2 2 K R Q T S2 mb mg mc M2 qq _ hit cd s' HVD.out.cores hK2'.out HVD.out.mem (HR0.out K hK2'.out) (HQ0.out K hK2'.out) r0 r1 HZ.out).mono ?_; rintro e w7 ⟨rfl, hc7, ho7⟩; have HV7 := Lib.hid (HVD.out.turn hK2'.out HTM.out hc7 ho7 HCK.out); clear hc7 ho7)
            | (go_at_call 25; refine (HWK.out _ (HV7.out.mem.call (bal (Below.refl _ _) _))).mono ?_; rintro e w8 ⟨rfl, hb8⟩))
          go_roundw
          case rel => exact ⟨k + 1, _, _, by omega, by go_num, Lib.hid (HV7.out.blk (bal (bgo (bal (Below.refl _ _) _) hb8) _))⟩
          case measure => simp [intOf]; omega
      have e6 : (d == 6) = false := beq_eq_false_iff_ne.2 d6
      have e2 : (d == 2) = false := beq_eq_false_iff_ne.2 d2
      have e3 : (d == 3) = false := beq_eq_false_iff_ne.2 d3
      clear d6 d2 d3
      go_wp2_with (first
        | (go_at_call 20; refine (low_any pg 8 _ HPG.out (by decide) (by decide)).mono ?_; rw [HPQ.out]; rintro e w1 ⟨rfl, rfl⟩))
      obtain ⟨S2, hS2⟩ : ∃ S2, S2 = S := ⟨_, rfl⟩
      obtain ⟨M2, hM2⟩ : ∃ M2, M2 = M := ⟨_, rfl⟩
      obtain ⟨wt, hwt⟩ : ∃ w, w = wr := ⟨_, rfl⟩
      subst hS2 hM2 hwt
      have HVT := HV
      clear c0 c1 c2 c3 c4 c5 c6 c8 HV
      have HVD : Hid (WalkInv W wt.drew b g R Q T mb mg mc S2 M2) := Lib.hid (HVT.out.blk (Below.refl _ _).drew)
      have hcr := act_keep HVT.out.bel hp2 HCW.out
      obtain ⟨t0, t1, t2, t3, t4, t5, t6, t7, t8⟩ := hcr
      go_still_tail 11, (by kernel_rfl)
      change wpList _ _ _ _ _ wt.drew
      have u1 : wt.drew.cell? ⟨pb, off + k * 9 + 1, none⟩ = some (.int .i64 co) := t1
      generalize wt.drew = wd at *
      obtain ⟨⟨⟨x, hit, cd⟩, s'⟩, hz⟩ : ∃ z, transF 8 M2 0 1 qq (S2 K) = z := ⟨_, rfl⟩
      have hck := ck_trans (HVD.out.ok K hK2'.out) r0 r1
      have hsay := trans_says (HVD.out.ok K hK2'.out) r0 r1
      rw [hz] at hck hsay
      simp only at hck hsay
      have HZ := Lib.hid hz
      have HCK := Lib.hid hck
      obtain ⟨hcd, hxx⟩ := hsay
      by_cases hw : walkC 8 M2 0 qq = 0
      · have hx := hxx hw
        rw [hw] at hcd
        rw [leafT_chain HVD.out.chain r0 r1] at hx
        have hWk := fun w (hM : MemAt w mb mg 8 mc M2) => walk_ok w mb mg 8 mc M2 0 qq hM hw
        rw [leafW_chain HVD.out.chain r0 r1, entW_form] at hWk
        have HWK := Lib.hid hWk
        subst hcd hx
        obtain ⟨fr, hfr⟩ : ∃ f : Int, ((leafM M2 qq / 256 % 64 : Nat) : Int) = f := ⟨_, rfl⟩
        obtain ⟨b1, hb1⟩ : ∃ b1, (leafM M2 qq).testBit 1 = b1 := ⟨_, rfl⟩
        obtain ⟨b2, hb2⟩ : ∃ b1, (leafM M2 qq).testBit 2 = b1 := ⟨_, rfl⟩
        obtain ⟨b3, hb3⟩ : ∃ b1, (leafM M2 qq).testBit 3 = b1 := ⟨_, rfl⟩
        rw [hfr, hb1, hb2, hb3] at HWK
        rw [hfr, hb2, hb3] at HZ
        clear hfr hb1 hb2 hb3 hxx hck hz hWk hw t0 t1 t2 t3 t4 t5 t6 t7 t8
        go_wp2_with (first
          | (go_at_call 20; refine (low_any (wrap64 (st + pg)) 8 _ HWR.out (by decide) (by decide)).mono ?_; rw [HQQ.out]; rintro e w2 ⟨rfl, rfl⟩)
          | (go_at_call 24; refine (ctr01 _ b g 2 2 K R Q T S2 mb mg mc M2 qq _ hit 0 s' HVD.out.cores hK2'.out HVD.out.mem (HR0.out K hK2'.out) (HQ0.out K hK2'.out) r0 r1 HZ.out).mono ?_; rintro e w7 ⟨rfl, hc7, ho7⟩; have HV7 := Lib.hid (HVD.out.turn hK2'.out HTM.out hc7 ho7 HCK.out); clear hc7 ho7)
          | (go_at_call 25; refine (HWK.out _ (HV7.out.mem.call (bal (Below.refl _ _) _))).mono ?_; rintro e w8 ⟨rfl, hb8⟩; obtain ⟨x0, x1, x2, x3, x4⟩ := (tr_new w7 ⟨1, qq, fr, b2, b3⟩).keep (by simp) hb8; have s8 : w7.heap.size < w8.heap.size := (Nat.lt_of_lt_of_le (by simp) hb8.size)))
        go_roundw
        case rel => exact ⟨k + 1, _, _, by omega, by go_num, Lib.hid (HV7.out.blk (bal (bgo (bal (Below.refl _ _) _) hb8) _))⟩
        case measure => simp [intOf]; omega
      · have hcz : (cd == 0) = false := beq_eq_false_iff_ne.2 (by rw [hcd]; exact hw)
        have hWk := fun w (hM : MemAt w mb mg 8 mc M2) => walk_no w mb mg 8 mc M2 0 qq cd hM hcd.symm (by rw [hcd]; exact hw)
        have HWK := Lib.hid hWk
        obtain ⟨xs, xp, xf, xr, xw⟩ := x
        clear hxx hck hz hWk hw hcd t0 t1 t2 t3 t4 t5 t6 t7 t8
        go_wp2_with (first
          | (go_at_call 20; refine (low_any (wrap64 (st + pg)) 8 _ HWR.out (by decide) (by decide)).mono ?_; rw [HQQ.out]; rintro e w2 ⟨rfl, rfl⟩)
          | (go_at_call 24; refine (ctr01 _ b g 2 2 K R Q T S2 mb mg mc M2 qq _ hit cd s' HVD.out.cores hK2'.out HVD.out.mem (HR0.out K hK2'.out) (HQ0.out K hK2'.out) r0 r1 HZ.out).mono ?_; rintro e w7 ⟨rfl, hc7, ho7⟩; have HV7 := Lib.hid (HVD.out.turn hK2'.out HTM.out hc7 ho7 HCK.out); clear hc7 ho7)
          | (go_at_call 25; refine (HWK.out _ (HV7.out.mem.call (bal (Below.refl _ _) _))).mono ?_; rintro e w8 ⟨rfl, hb8⟩))
        go_roundw
        case rel => exact ⟨k + 1, _, _, by omega, by go_num, Lib.hid (HV7.out.blk (bal (bgo (bal (Below.refl _ _) _) hb8) _))⟩
        case measure => simp [intOf]; omega
    · obtain rfl : k = n := by omega
      clear HD HP
      go_wp2_with (first
        | (go_at_call 9; refine (awake7 _).mono ?_; rintro e w3 ⟨rfl, hb3⟩))
      go_ret
      exact ⟨rfl, bgo HV.out.bel hb3⟩
end Go.Proofs.Ytedapbliebiblaa
