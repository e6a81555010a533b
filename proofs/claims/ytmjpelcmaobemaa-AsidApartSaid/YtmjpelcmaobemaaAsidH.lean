/- The law AsidApart. -/
import Derived.Test.YtmjpelcmaobemaaAsidG
import Derived.Deep.CutRange
namespace Go.Proofs.Ytmjpelcmaobemaa
set_option linter.unusedVariables false
set_option linter.unusedSimpArgs false
open Go.ChangeShapes Go.WideShapes Go.ChangeAt Go.RowKit Go.Shelf

theorem BlkOnly.asid {b c : Nat} {w w' : World} {po : Nat → Int} {tk : Int} {N : Nums} (h : BlkOnly b w w') (hn : c ≠ b) (hA : AsidAt w c po tk N) : AsidAt w' c po tk N := hA.of_block h.size (h.block c hA.lt hn)
/-- Both objects, and all that lay before. -/
structure Both (W : World) (b1 b2 : Nat) (w : World) : Prop where
  at_ : ∃ po1 N1 po2 N2, AsidAt w b1 po1 2 N1 ∧ AsidAt w b2 po2 2 N2 ∧ Apt po1 N1 po2 N2
  keep : Below W.heap.size W w
theorem dropPool_c (w : World) (b : Nat) (po : Nat → Int) (tk : Int) (N : Nums) (pool : Int) (h : AsidAt w b po tk N) :
    Calls Try.prog 13 #[.pointer (some ⟨b, 0, none⟩), .int .i64 pool] w fun e W' => ∃ v cc, e = .returned (.tuple #[v, .int .i64 cc]) ∧ AsidAt W' b (dropPo po pool) tk (dropNL po N pool).1 ∧ BlkOnly b w W' :=
  (dropPool_any w b po tk N pool h).mono fun e W' ⟨v, he, _, h1, h2⟩ => ⟨v, _, he, h1, h2⟩
theorem mid_step {W w w' : World} {b2 : Nat} {po2 : Nat → Int} {N2 : Nums} (hk : Below W.heap.size W w) (h2 : AsidAt w b2 po2 2 N2) (hne : W.heap.size < b2) (hl : b2 < w.heap.size) (ho : BlkOnly W.heap.size w w') :
    Hid (AsidAt w' b2 po2 2 N2) ∧ Hid (Below W.heap.size W w') ∧ b2 < w'.heap.size ∧ Hid (∀ k j v, k < W.heap.size → w.cell? ⟨k, j, none⟩ = some v → w'.cell? ⟨k, j, none⟩ = some v) :=
  ⟨Lib.hid (ho.asid (by omega) h2), Lib.hid (hk.trans (ho.below (Nat.le_refl _) (by omega))), ho.lt hl, Lib.hid fun k j v hk' q => (cell_of_block (ho.block k (by omega) (by omega))).trans q⟩
theorem other_step {W w w' : World} {b2 : Nat} {po1' po2 : Nat → Int} {N1' N2 : Nums} (hk : Below W.heap.size W w) (h2 : AsidAt w b2 po2 2 N2) (hne : W.heap.size < b2) (hl : b2 < w.heap.size) (ho : BlkOnly W.heap.size w w') (hA : AsidAt w' W.heap.size po1' 2 N1') (hapt : Apt po1' N1' po2 N2) :
    Hid (Both W W.heap.size b2 w') ∧ b2 < w'.heap.size ∧ Hid (∀ k j v, k < W.heap.size → w.cell? ⟨k, j, none⟩ = some v → w'.cell? ⟨k, j, none⟩ = some v) := by
  obtain ⟨a, b, c, d⟩ := mid_step hk h2 hne hl ho
  exact ⟨Lib.hid ⟨⟨_, _, _, _, hA, a.out, hapt⟩, b.out⟩, c, d⟩
theorem end_step {W w w' : World} {b2 : Nat} {po1 po2 : Nat → Int} {N1 N2 : Nums} (hk : Below W.heap.size W w) (h1 : AsidAt w W.heap.size po1 2 N1) (hne : W.heap.size < b2) (hl : b2 < w.heap.size) (ho : BlkOnly b2 w w') (hA : AsidAt w' b2 po2 2 N2) (hapt : Apt po1 N1 po2 N2) :
    Hid (Both W W.heap.size b2 w') ∧ b2 < w'.heap.size ∧ Hid (∀ k j v, k < W.heap.size → w.cell? ⟨k, j, none⟩ = some v → w'.cell? ⟨k, j, none⟩ = some v) :=
  ⟨Lib.hid ⟨⟨_, _, _, _, ho.asid (by omega) h1, hA, hapt⟩, hk.trans (ho.below (by omega) hl)⟩, ho.lt hl, Lib.hid fun k j v hk' q => (cell_of_block (ho.block k (by omega) (by omega))).trans q⟩
set_option maxRecDepth 100000 in
set_option maxHeartbeats 20000000 in
theorem walk_asidApart {W : World} (p : Option Addr) (n c : Nat) (hx : n ≤ c ∧ c ≤ maxLen ∧ ∃ D, ActsAt W p n D) (p' : Option Addr) (n' c' : Nat) (hx' : n' ≤ c' ∧ c' ≤ maxLen ∧ ∃ D, ActsAt W p' n' D) :
    Calls Try.prog 5 #[.slice p n c, .slice p' n' c'] W fun e w' => e = .returned (.bool true) ∧ Below W.heap.size W w' := by
  obtain ⟨h1, h2, D, pb, off, hp, hD⟩ := hx
  obtain ⟨h1', h2', D', pb', off', hp', hD'⟩ := hx'
  unfold maxLen at h2 h2'
  have HD := Lib.hid hD
  have HP := Lib.hid hp
  have HD' := Lib.hid hD'
  have HP' := Lib.hid hp'
  clear hD hp hD' hp'
  by_cases hn : 60 < n ∨ 60 < n'
  · have hd : (decide (60 < (n : Int)) || decide (60 < (n' : Int))) = true := by simp; omega
    go_enter Try.func5, Try.ntmps5
    go_wp2_with (first
      | (go_at_call 8; refine (awake19 _).mono ?_; rintro e w3 ⟨rfl, hb3⟩))
    all_goals go_ret
    all_goals exact ⟨rfl, hb3⟩
  have hn1 : n ≤ 60 := by omega
  have hn2 : n' ≤ 60 := by omega
  clear hn
  have g1 := add_one po0 rfl
  have g2 := add_two
  have G1 := Lib.hid g1
  have G2 := Lib.hid g2
  clear g1 g2
  go_enter Try.func5, Try.ntmps5
  go_wp2_with (fail)
  refine (new_any _).mono ?_
  rintro e w1 ⟨rfl, ha1, hb1⟩
  have HA1 := Lib.hid ha1
  have hl1 := ha1.lt
  clear ha1
  go_wp2_with (fail)
  refine (new_any _).mono ?_
  rintro e w2 ⟨rfl, ha2, hb2⟩
  have HA2 := Lib.hid (HA1.out.call hb2)
  have HZ2 := Lib.hid ha2
  have hl2 := ha2.lt
  clear ha2
  obtain ⟨b2, hb⟩ : ∃ x, w1.heap.size = x := ⟨_, rfl⟩
  rw [hb] at HZ2 hl2 hl1 ⊢
  have hB2 : Below W.heap.size W w2 := bgo hb1 hb2
  clear hb hb2 hb1 HA1
  go_wp2_with (fail)
  refine (addPool_any _ W.heap.size po0 0 N0 1 HA2.out (by decide) (by decide)).mono ?_
  rw [G1.out]
  rintro e w3 ⟨rfl, ha3, ho3⟩
  have HA3 := Lib.hid ha3
  have HZ3 := Lib.hid (ho3.asid (by omega) HZ2.out)
  have hl3 := ho3.lt hl2
  have hB3 : Below W.heap.size W w3 := hB2.trans (ho3.below (Nat.le_refl _) (by omega))
  clear ha3 ho3 HA2 HZ2
  go_wp2_with (fail)
  refine (addPool_any _ b2 po0 0 N0 1 HZ3.out (by decide) (by decide)).mono ?_
  rw [G1.out]
  rintro e w4 ⟨rfl, ha4, ho4⟩
  have HZ4 := Lib.hid ha4
  have HA4 := Lib.hid (ho4.asid (by omega) HA3.out)
  have hl4 := ho4.lt hl3
  have hB4 : Below W.heap.size W w4 := hB3.trans (ho4.below (by omega) hl3)
  clear ha4 ho4 HA3 HZ3
  go_wp2_with (fail)
  refine (addPool_any _ W.heap.size _ 1 N0 2 HA4.out (by decide) (by decide)).mono ?_
  rw [G2.out]
  rintro e w5 ⟨rfl, ha5, ho5⟩
  have HA5 := Lib.hid ha5
  have HZ5 := Lib.hid (ho5.asid (by omega) HZ4.out)
  have hl5 := ho5.lt hl4
  have hB5 : Below W.heap.size W w5 := hB4.trans (ho5.below (Nat.le_refl _) (by omega))
  clear ha5 ho5 HA4 HZ4
  go_wp2_with (fail)
  refine (addPool_any _ b2 _ 1 N0 2 HZ5.out (by decide) (by decide)).mono ?_
  rw [G2.out]
  rintro e w6 ⟨rfl, ha6, ho6⟩
  have hB6 : Hid (Both W W.heap.size b2 w6) := Lib.hid ⟨⟨_, _, _, _, ho6.asid (by omega) HA5.out, ha6, apt_0⟩, hB5.trans (ho6.below (by omega) hl5)⟩
  have hl6 := ho6.lt hl5
  clear ha6 ho6 HA5 HZ5 hB5 hB4 hB3 hB2 hl2 hl3 hl4 hl5
  go_wp2_with (fail)
  go_loopw [7] (fun i wr => ∃ k : Nat, k ≤ 60 ∧ i = .int .i64 k ∧ Hid (Both W W.heap.size b2 wr) ∧ b2 < wr.heap.size) (fun i _ => 60 - (intOf i).toNat)
  case atStart => exact ⟨0, by omega, rfl, hB6, hl6⟩
  case round =>
    obtain ⟨k, hk, rfl, HB, hbl⟩ := hrel
    clear hB6 hl6
    by_cases hlt : k < n ∨ k < n'
    · have hd : (decide ((k : Int) < n) || decide ((k : Int) < n')) = true := by simp; omega
      rcases Decidable.em ((k : Int) < n) with hkn | hkn
      · rcases Decidable.em ((k : Int) < n') with hkm | hkm
        · go_upto_if 60 with (fail)
          go_cut [8] from 45 to 163 (fun r wc => Hid (Both W W.heap.size b2 wc) ∧ b2 < wc.heap.size)
          case first =>
            obtain ⟨⟨po1, N1, po2, N2, hA, hZ, hapt⟩, hkeep⟩ := HB.out
            have HA := Lib.hid hA
            have HZ := Lib.hid hZ
            have HT := Lib.hid hapt
            have HK := Lib.hid hkeep
            clear hA hZ hapt hkeep
            obtain ⟨rfl, hpx⟩ := HP'.out (by omega)
            obtain ⟨⟨c0, c1, c2⟩, -, -, dx⟩ := HD'.out k (by omega)
            obtain ⟨⟨xd, xa, xb⟩, hx⟩ : ∃ x, D' k = x := ⟨_, rfl⟩
            rw [hx] at c0 c1 c2 dx
            simp only at c0 c1 c2 dx
            have e0 := (HK.out.cell (p := ⟨pb', off' + k * 3, none⟩) hpx).trans c0
            have e2 := (HK.out.cell (p := ⟨pb', off' + k * 3 + 2, none⟩) hpx).trans c2
            have l0 := lowI_0 xb 6 (by decide)
            have l1 := lowI_1 xb 6 (by decide)
            have HX := Lib.hid dx
            obtain ⟨q, hq⟩ : ∃ q, lowI xb 6 = q := ⟨_, rfl⟩
            rw [hq] at l0 l1
            have HQ := Lib.hid hq
            clear c0 c1 c2 hx dx hq
            have hq100 : 100 ≤ 100 + q := by omega
            by_cases d2 : xd = 2
            · subst d2
              go_wp2_with (first
                | (go_at_call 26; refine (low_any xb 6 _ HX.out (by decide) (by decide)).mono ?_; rw [HQ.out]; rintro e w4 ⟨rfl, rfl⟩)
                | (go_at_call 17; refine (assign_any _ W.heap.size po1 2 N1 2 (100 + q) HA.out HT.out.ok1).mono ?_; rintro e w5 ⟨rfl, ha5, ho5⟩; obtain ⟨HB5, hl5, he5⟩ := other_step HK.out HZ.out hl1 hbl ho5 ha5 (apt_assign HT.out hq100); have e5 := he5.out _ _ _ hpx e0; clear ha5 he5))
              go_meet
              case rel => exact ⟨HB5, hl5⟩
            by_cases d3 : xd = 3
            · subst d3
              go_wp2_with (first
                | (go_at_call 26; refine (low_any xb 6 _ HX.out (by decide) (by decide)).mono ?_; rw [HQ.out]; rintro e w4 ⟨rfl, rfl⟩)
                | (go_at_call 19; refine (unassign_any _ W.heap.size po1 2 N1 (100 + q) HA.out).mono ?_; rintro e w5 ⟨rfl, ha5, ho5⟩; obtain ⟨HB5, hl5, he5⟩ := other_step HK.out HZ.out hl1 hbl ho5 ha5 (apt_unassign HT.out hq100); have e5 := he5.out _ _ _ hpx e0; clear ha5 he5))
              go_meet
              case rel => exact ⟨HB5, hl5⟩
            by_cases d1 : xd = 1
            · subst d1
              go_wp2_with (first
                | (go_at_call 26; refine (low_any xb 6 _ HX.out (by decide) (by decide)).mono ?_; rw [HQ.out]; rintro e w4 ⟨rfl, rfl⟩)
                | (go_at_call 13; refine (dropPool_c _ W.heap.size po1 2 N1 2 HA.out).mono ?_; rintro e w5 ⟨v5, cc5, rfl, ha5, ho5⟩; obtain ⟨HB5, hl5, he5⟩ := other_step HK.out HZ.out hl1 hbl ho5 ha5 (apt_drop HT.out); have e5 := he5.out _ _ _ hpx e0; clear ha5 he5))
              go_meet
              case rel => exact ⟨HB5, hl5⟩
            · go_wp2_with (first
                | (go_at_call 26; refine (low_any xb 6 _ HX.out (by decide) (by decide)).mono ?_; rw [HQ.out]; rintro e w4 ⟨rfl, rfl⟩))
              go_meet
              case rel => exact ⟨HB, hbl⟩

          case rest =>
            obtain ⟨HBc, hbc⟩ := hcut
            obtain ⟨⟨po1, N1, po2, N2, hA, hZ, hapt⟩, hkeep⟩ := HBc.out
            have HA := Lib.hid hA
            have HZ := Lib.hid hZ
            have HT := Lib.hid hapt
            have HK := Lib.hid hkeep
            clear hA hZ hapt hkeep
            obtain ⟨rfl, hpx⟩ := HP.out (by omega)
            obtain ⟨⟨c0, c1, c2⟩, -, -, dx⟩ := HD.out k (by omega)
            obtain ⟨⟨xd, xa, xb⟩, hx⟩ : ∃ x, D k = x := ⟨_, rfl⟩
            rw [hx] at c0 c1 c2 dx
            simp only at c0 c1 c2 dx
            have e0 := (HK.out.cell (p := ⟨pb, off + k * 3, none⟩) hpx).trans c0
            have e2 := (HK.out.cell (p := ⟨pb, off + k * 3 + 2, none⟩) hpx).trans c2
            have l0 := lowI_0 xb 6 (by decide)
            have l1 := lowI_1 xb 6 (by decide)
            have HX := Lib.hid dx
            obtain ⟨q, hq⟩ : ∃ q, lowI xb 6 = q := ⟨_, rfl⟩
            rw [hq] at l0 l1
            have HQ := Lib.hid hq
            clear c0 c1 c2 hx dx hq
            obtain ⟨hm1, hm2⟩ := apt_mine HT.out (r := 1 + q) (by omega) (by omega)
            obtain ⟨hn1, hn2⟩ := apt_mineU HT.out (r := 1 + q) (by omega) (by omega)
            obtain ⟨⟨ra, rb, rc⟩, hr⟩ : ∃ r, (assignF po1 N1 1 (1 + q)).1 = r := ⟨_, rfl⟩
            obtain ⟨⟨ua, ub⟩, hu⟩ : ∃ r, (unassignF N1 (1 + q)).1 = r := ⟨_, rfl⟩
            rw [hr] at hm1
            rw [hu] at hn1
            have HR := Lib.hid hr
            have HU := Lib.hid hu
            have HM1 := Lib.hid hm1
            have HM2 := Lib.hid hm2
            have HN1 := Lib.hid hn1
            have HN2 := Lib.hid hn2
            clear hr hu hm1 hm2 hn1 hn2
            by_cases d2 : xd = 2
            · subst d2
              go_wp2_with (first
                | (go_at_call 26; refine (low_any xb 6 _ HX.out (by decide) (by decide)).mono ?_; rw [HQ.out]; rintro e w4 ⟨rfl, rfl⟩)
                | (go_at_call 17; refine (assign_any _ b2 po2 2 N2 1 (1 + q) HZ5.out HT.out.ok2).mono ?_; rw [HM1.out]; rintro e w6 ⟨rfl, ha6, ho6⟩; obtain ⟨HB6, hl6, he6⟩ := end_step HK5.out HA5.out hl1 hl5 ho6 ha6 HM2.out; have e6 := he6.out _ _ _ hpx e5; clear ha6 he6)
                | (go_at_call 17; refine (assign_any _ W.heap.size po1 2 N1 1 (1 + q) HA.out HT.out.ok1).mono ?_; rw [HR.out]; rintro e w5 ⟨rfl, ha5, ho5⟩; have HA5 := Lib.hid ha5; obtain ⟨HZ5, HK5, hl5, he5⟩ := mid_step HK.out HZ.out hl1 hbc ho5; have e5 := he5.out _ _ _ hpx e0; clear ha5 he5))
              go_roundw
              case rel => first | exact ⟨k + 1, by omega, by go_num, HB6, hl6⟩ | ((repeat apply Exists.intro); exact ⟨⟨k + 1, by omega, by go_num, HB6, hl6⟩, rfl⟩)
              case measure => simp [intOf]; omega
            by_cases d3 : xd = 3
            · subst d3
              go_wp2_with (first
                | (go_at_call 26; refine (low_any xb 6 _ HX.out (by decide) (by decide)).mono ?_; rw [HQ.out]; rintro e w4 ⟨rfl, rfl⟩)
                | (go_at_call 19; refine (unassign_any _ b2 po2 2 N2 (1 + q) HZ5.out).mono ?_; rw [HN1.out]; rintro e w6 ⟨rfl, ha6, ho6⟩; obtain ⟨HB6, hl6, he6⟩ := end_step HK5.out HA5.out hl1 hl5 ho6 ha6 HN2.out; have e6 := he6.out _ _ _ hpx e5; clear ha6 he6)
                | (go_at_call 19; refine (unassign_any _ W.heap.size po1 2 N1 (1 + q) HA.out).mono ?_; rw [HU.out]; rintro e w5 ⟨rfl, ha5, ho5⟩; have HA5 := Lib.hid ha5; obtain ⟨HZ5, HK5, hl5, he5⟩ := mid_step HK.out HZ.out hl1 hbc ho5; have e5 := he5.out _ _ _ hpx e0; clear ha5 he5))
              go_roundw
              case rel => first | exact ⟨k + 1, by omega, by go_num, HB6, hl6⟩ | ((repeat apply Exists.intro); exact ⟨⟨k + 1, by omega, by go_num, HB6, hl6⟩, rfl⟩)
              case measure => simp [intOf]; omega
            · go_wp2_with (first
                | (go_at_call 26; refine (low_any xb 6 _ HX.out (by decide) (by decide)).mono ?_; rw [HQ.out]; rintro e w4 ⟨rfl, rfl⟩))
              go_roundw
              case rel => first | exact ⟨k + 1, by omega, by go_num, HBc, hbc⟩ | ((repeat apply Exists.intro); exact ⟨⟨k + 1, by omega, by go_num, HBc, hbc⟩, rfl⟩)
              case measure => simp [intOf]; omega

        ·
          obtain ⟨⟨po1, N1, po2, N2, hA, hZ, hapt⟩, hkeep⟩ := HB.out
          have HA := Lib.hid hA
          have HZ := Lib.hid hZ
          have HT := Lib.hid hapt
          have HK := Lib.hid hkeep
          clear hA hZ hapt hkeep
          obtain ⟨rfl, hpx⟩ := HP.out (by omega)
          obtain ⟨⟨c0, c1, c2⟩, -, -, dx⟩ := HD.out k (by omega)
          obtain ⟨⟨xd, xa, xb⟩, hx⟩ : ∃ x, D k = x := ⟨_, rfl⟩
          rw [hx] at c0 c1 c2 dx
          simp only at c0 c1 c2 dx
          have e0 := (HK.out.cell (p := ⟨pb, off + k * 3, none⟩) hpx).trans c0
          have e2 := (HK.out.cell (p := ⟨pb, off + k * 3 + 2, none⟩) hpx).trans c2
          have l0 := lowI_0 xb 6 (by decide)
          have l1 := lowI_1 xb 6 (by decide)
          have HX := Lib.hid dx
          obtain ⟨q, hq⟩ : ∃ q, lowI xb 6 = q := ⟨_, rfl⟩
          rw [hq] at l0 l1
          have HQ := Lib.hid hq
          clear c0 c1 c2 hx dx hq
          obtain ⟨hm1, hm2⟩ := apt_mine HT.out (r := 1 + q) (by omega) (by omega)
          obtain ⟨hn1, hn2⟩ := apt_mineU HT.out (r := 1 + q) (by omega) (by omega)
          obtain ⟨⟨ra, rb, rc⟩, hr⟩ : ∃ r, (assignF po1 N1 1 (1 + q)).1 = r := ⟨_, rfl⟩
          obtain ⟨⟨ua, ub⟩, hu⟩ : ∃ r, (unassignF N1 (1 + q)).1 = r := ⟨_, rfl⟩
          rw [hr] at hm1
          rw [hu] at hn1
          have HR := Lib.hid hr
          have HU := Lib.hid hu
          have HM1 := Lib.hid hm1
          have HM2 := Lib.hid hm2
          have HN1 := Lib.hid hn1
          have HN2 := Lib.hid hn2
          clear hr hu hm1 hm2 hn1 hn2
          by_cases d2 : xd = 2
          · subst d2
            go_wp2_with (first
              | (go_at_call 26; refine (low_any xb 6 _ HX.out (by decide) (by decide)).mono ?_; rw [HQ.out]; rintro e w4 ⟨rfl, rfl⟩)
              | (go_at_call 17; refine (assign_any _ b2 po2 2 N2 1 (1 + q) HZ5.out HT.out.ok2).mono ?_; rw [HM1.out]; rintro e w6 ⟨rfl, ha6, ho6⟩; obtain ⟨HB6, hl6, he6⟩ := end_step HK5.out HA5.out hl1 hl5 ho6 ha6 HM2.out; have e6 := he6.out _ _ _ hpx e5; clear ha6 he6)
              | (go_at_call 17; refine (assign_any _ W.heap.size po1 2 N1 1 (1 + q) HA.out HT.out.ok1).mono ?_; rw [HR.out]; rintro e w5 ⟨rfl, ha5, ho5⟩; have HA5 := Lib.hid ha5; obtain ⟨HZ5, HK5, hl5, he5⟩ := mid_step HK.out HZ.out hl1 hbl ho5; have e5 := he5.out _ _ _ hpx e0; clear ha5 he5))
            go_roundw
            case rel => first | exact ⟨k + 1, by omega, by go_num, HB6, hl6⟩ | ((repeat apply Exists.intro); exact ⟨⟨k + 1, by omega, by go_num, HB6, hl6⟩, rfl⟩)
            case measure => simp [intOf]; omega
          by_cases d3 : xd = 3
          · subst d3
            go_wp2_with (first
              | (go_at_call 26; refine (low_any xb 6 _ HX.out (by decide) (by decide)).mono ?_; rw [HQ.out]; rintro e w4 ⟨rfl, rfl⟩)
              | (go_at_call 19; refine (unassign_any _ b2 po2 2 N2 (1 + q) HZ5.out).mono ?_; rw [HN1.out]; rintro e w6 ⟨rfl, ha6, ho6⟩; obtain ⟨HB6, hl6, he6⟩ := end_step HK5.out HA5.out hl1 hl5 ho6 ha6 HN2.out; have e6 := he6.out _ _ _ hpx e5; clear ha6 he6)
              | (go_at_call 19; refine (unassign_any _ W.heap.size po1 2 N1 (1 + q) HA.out).mono ?_; rw [HU.out]; rintro e w5 ⟨rfl, ha5, ho5⟩; have HA5 := Lib.hid ha5; obtain ⟨HZ5, HK5, hl5, he5⟩ := mid_step HK.out HZ.out hl1 hbl ho5; have e5 := he5.out _ _ _ hpx e0; clear ha5 he5))
            go_roundw
            case rel => first | exact ⟨k + 1, by omega, by go_num, HB6, hl6⟩ | ((repeat apply Exists.intro); exact ⟨⟨k + 1, by omega, by go_num, HB6, hl6⟩, rfl⟩)
            case measure => simp [intOf]; omega
          · go_wp2_with (first
              | (go_at_call 26; refine (low_any xb 6 _ HX.out (by decide) (by decide)).mono ?_; rw [HQ.out]; rintro e w4 ⟨rfl, rfl⟩))
            go_roundw
            case rel => first | exact ⟨k + 1, by omega, by go_num, HB, hbl⟩ | ((repeat apply Exists.intro); exact ⟨⟨k + 1, by omega, by go_num, HB, hbl⟩, rfl⟩)
            case measure => simp [intOf]; omega

      ·
        have hkm : (k : Int) < n' := by omega
        obtain ⟨⟨po1, N1, po2, N2, hA, hZ, hapt⟩, hkeep⟩ := HB.out
        have HA := Lib.hid hA
        have HZ := Lib.hid hZ
        have HT := Lib.hid hapt
        have HK := Lib.hid hkeep
        clear hA hZ hapt hkeep
        obtain ⟨rfl, hpx⟩ := HP'.out (by omega)
        obtain ⟨⟨c0, c1, c2⟩, -, -, dx⟩ := HD'.out k (by omega)
        obtain ⟨⟨xd, xa, xb⟩, hx⟩ : ∃ x, D' k = x := ⟨_, rfl⟩
        rw [hx] at c0 c1 c2 dx
        simp only at c0 c1 c2 dx
        have e0 := (HK.out.cell (p := ⟨pb', off' + k * 3, none⟩) hpx).trans c0
        have e2 := (HK.out.cell (p := ⟨pb', off' + k * 3 + 2, none⟩) hpx).trans c2
        have l0 := lowI_0 xb 6 (by decide)
        have l1 := lowI_1 xb 6 (by decide)
        have HX := Lib.hid dx
        obtain ⟨q, hq⟩ : ∃ q, lowI xb 6 = q := ⟨_, rfl⟩
        rw [hq] at l0 l1
        have HQ := Lib.hid hq
        clear c0 c1 c2 hx dx hq
        have hq100 : 100 ≤ 100 + q := by omega
        by_cases d2 : xd = 2
        · subst d2
          go_wp2_with (first
            | (go_at_call 26; refine (low_any xb 6 _ HX.out (by decide) (by decide)).mono ?_; rw [HQ.out]; rintro e w4 ⟨rfl, rfl⟩)
            | (go_at_call 17; refine (assign_any _ W.heap.size po1 2 N1 2 (100 + q) HA.out HT.out.ok1).mono ?_; rintro e w5 ⟨rfl, ha5, ho5⟩; obtain ⟨HB5, hl5, he5⟩ := other_step HK.out HZ.out hl1 hbl ho5 ha5 (apt_assign HT.out hq100); have e5 := he5.out _ _ _ hpx e0; clear ha5 he5))
          go_roundw
          case rel => first | exact ⟨k + 1, by omega, by go_num, HB5, hl5⟩ | ((repeat apply Exists.intro); exact ⟨⟨k + 1, by omega, by go_num, HB5, hl5⟩, rfl⟩)
          case measure => simp [intOf]; omega
        by_cases d3 : xd = 3
        · subst d3
          go_wp2_with (first
            | (go_at_call 26; refine (low_any xb 6 _ HX.out (by decide) (by decide)).mono ?_; rw [HQ.out]; rintro e w4 ⟨rfl, rfl⟩)
            | (go_at_call 19; refine (unassign_any _ W.heap.size po1 2 N1 (100 + q) HA.out).mono ?_; rintro e w5 ⟨rfl, ha5, ho5⟩; obtain ⟨HB5, hl5, he5⟩ := other_step HK.out HZ.out hl1 hbl ho5 ha5 (apt_unassign HT.out hq100); have e5 := he5.out _ _ _ hpx e0; clear ha5 he5))
          go_roundw
          case rel => first | exact ⟨k + 1, by omega, by go_num, HB5, hl5⟩ | ((repeat apply Exists.intro); exact ⟨⟨k + 1, by omega, by go_num, HB5, hl5⟩, rfl⟩)
          case measure => simp [intOf]; omega
        by_cases d1 : xd = 1
        · subst d1
          go_wp2_with (first
            | (go_at_call 26; refine (low_any xb 6 _ HX.out (by decide) (by decide)).mono ?_; rw [HQ.out]; rintro e w4 ⟨rfl, rfl⟩)
            | (go_at_call 13; refine (dropPool_c _ W.heap.size po1 2 N1 2 HA.out).mono ?_; rintro e w5 ⟨v5, cc5, rfl, ha5, ho5⟩; obtain ⟨HB5, hl5, he5⟩ := other_step HK.out HZ.out hl1 hbl ho5 ha5 (apt_drop HT.out); have e5 := he5.out _ _ _ hpx e0; clear ha5 he5))
          go_roundw
          case rel => first | exact ⟨k + 1, by omega, by go_num, HB5, hl5⟩ | ((repeat apply Exists.intro); exact ⟨⟨k + 1, by omega, by go_num, HB5, hl5⟩, rfl⟩)
          case measure => simp [intOf]; omega
        · go_wp2_with (first
            | (go_at_call 26; refine (low_any xb 6 _ HX.out (by decide) (by decide)).mono ?_; rw [HQ.out]; rintro e w4 ⟨rfl, rfl⟩))
          go_roundw
          case rel => first | exact ⟨k + 1, by omega, by go_num, HB, hbl⟩ | ((repeat apply Exists.intro); exact ⟨⟨k + 1, by omega, by go_num, HB, hbl⟩, rfl⟩)
          case measure => simp [intOf]; omega

    · have hkn : ¬ (k : Int) < n := by omega
      have hkn' : ¬ (k : Int) < n' := by omega
      go_wp2_with (first
        | (go_at_call 8; refine (awake19 _).mono ?_; rintro e w8 ⟨rfl, hb8⟩))
      go_ret
      exact ⟨rfl, bgo HB.out.keep hb8⟩
end Go.Proofs.Ytmjpelcmaobemaa
