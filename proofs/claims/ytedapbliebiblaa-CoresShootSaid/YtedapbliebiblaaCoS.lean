/- The law CoresShoot. -/
import Derived.Test.YtedapbliebiblaaCoG
import Derived.Test.YtedapbliebiblaaPick
import Derived.Test.YtedapbliebiblaaKq
namespace Go.Proofs.Ytedapbliebiblaa
set_option linter.unusedVariables false
set_option linter.unusedSimpArgs false
open Go.ChangeShapes Go.WideShapes Go.ChangeAt Go.RowKit Go.Shelf

/-- Which rows are out. -/
def outB (al : Bool) (sp pg : Int) (x : TransX) : Bool := x.s == sp && (al || x.p == pg)
theorem outB_true (sp pg : Int) : outB true sp pg = spaceOut sp := by funext x; simp [outB, spaceOut]
theorem outB_false (sp pg : Int) : outB false sp pg = pageOut sp pg := by funext x; simp [outB, pageOut]
/-- How many rows of the first k cores are out; how many there are. -/
def nC (S : Nat → TS) (out : TransX → Bool) : Nat → Nat
  | 0 => 0
  | k + 1 => nC S out k + leftC (S k) out 0
def aC (S : Nat → TS) : Nat → Nat
  | 0 => 0
  | k + 1 => aC S k + allN (S k)
theorem allN_le (s : TS) : allN s ≤ 8 := by unfold allN; exact fullP_len s 8
theorem aC_le (S : Nat → TS) : ∀ k, aC S k ≤ 8 * k
  | 0 => Nat.le_refl _
  | k + 1 => by have := aC_le S k; have := allN_le (S k); unfold aC; omega
theorem nC_le (S : Nat → TS) (out : TransX → Bool) : ∀ k, nC S out k ≤ 8 * k
  | 0 => Nat.le_refl _
  | k + 1 => by have := nC_le S out k; have := leftC_le (S k) out 0; unfold nC; omega
theorem wrap_word (x : Int) : WordI (IntKind.u64.wrap x) := by
  simp only [WordI, IntKind.wrap, IntKind.signed, IntKind.bits]
  simp
  omega
def dS (S : Nat → TS) (out : TransX → Bool) : Nat → TS := (dropL S out (frs 3 3)).1
theorem dS_at (S : Nat → TS) (out : TransX → Bool) {i : Nat} (hi : i < 3) : dS S out i = (dropF (S i) out (fullP (S i) 8)).1 := by
  unfold dS
  rw [dropL_at S out 3 (Nat.le_refl _) i, if_pos hi]
theorem dropL_cntS {n : Nat} (S : Nat → TS) (out : TransX → Bool) : ∀ k, k ≤ n → (dropL S out (frs n k)).2 = nC S out k
  | 0, _ => by simp [frs, dropL, nC]
  | k + 1, hk => by
    have ih := dropL_cntS (n := n) S out k (by omega)
    rw [frs_succ (l0 := n) (k := k) (by omega), dropL_snoc]
    simp only [nC]
    rw [ih, dropL_at S out k (by omega) k, if_neg (Nat.lt_irrefl _), leftC_zero]
theorem aC_drop (S : Nat → TS) (out : TransX → Bool) : ∀ k, k ≤ 3 → aC (dS S out) k + nC S out k = aC S k
  | 0, _ => rfl
  | k + 1, hk => by
    have ih := aC_drop S out k (by omega)
    have := drop_len (S k) out
    simp only [aC, nC]
    rw [dS_at S out (by omega : k < 3)]
    omega
set_option maxRecDepth 100000 in
set_option maxHeartbeats 8000000 in
theorem walk_coresShoot {W : World} (p : Option Addr) (n c : Nat) (hx : n ≤ c ∧ c ≤ maxLen ∧ ∃ D, PicksAt W p n D) (p2 : Option Addr) (n2 c2 : Nat) (hx2 : n2 ≤ c2 ∧ c2 ≤ maxLen ∧ ∃ D, PicksAt W p2 n2 D) (a2 : Int) (w2 : (Lit.int .i64 a2).wf = true) (a3 : Int) (w3 : (Lit.int .i64 a3).wf = true) (al : Bool) :
    Calls Try.prog 5 #[.slice p n c, .slice p2 n2 c2, .int .i64 a2, .int .i64 a3, .bool al] W fun e w' => e = .returned (.bool true) ∧ Below W.heap.size W w' := by
  obtain ⟨h1, h2, D, pb, off, hp, hD⟩ := hx
  obtain ⟨h3, h4, D2, pb2, off2, hp2, hD2⟩ := hx2
  unfold maxLen at h2 h4
  have HD := Lib.hid hD
  have HP := Lib.hid hp
  have HD2 := Lib.hid hD2
  have HP2 := Lib.hid hp2
  have HA2 := Lib.hid (i64_ofP w2)
  have HA3 := Lib.hid (i64_ofP w3)
  clear hD hp hD2 hp2 w2 w3
  by_cases hn : 60 < n
  · go_enter Try.func5, Try.ntmps5
    go_wp2_with (first
      | (go_at_call 9; refine (awake7 _).mono ?_; rintro e w3 ⟨rfl, hb3⟩))
    go_ret
    exact ⟨rfl, hb3⟩
  have hn' : n ≤ 60 := by omega
  clear hn
  have s0 := lowI_0 a2 3 (by decide)
  have s1 := lowI_1 a2 3 (by decide)
  obtain ⟨sp, hsp⟩ : ∃ q : Nat, lowI a2 3 = q := ⟨(lowI a2 3).toNat, by omega⟩
  rw [hsp] at s0 s1
  have HSP := Lib.hid hsp
  have q0 := lowI_0 a3 8 (by decide)
  have q1 := lowI_1 a3 8 (by decide)
  obtain ⟨pg, hpg⟩ : ∃ q : Nat, lowI a3 8 = q := ⟨(lowI a3 8).toNat, by omega⟩
  rw [hpg] at q0 q1
  have HPG := Lib.hid hpg
  clear hsp hpg
  have hv257 : WordI 257 := ⟨by decide, by decide⟩
  have hv513 : WordI 513 := ⟨by decide, by decide⟩
  go_enter Try.func5, Try.ntmps5
  go_wp2_with (fail)
  refine (cnew_ok _ 3 (by decide) (by decide)).mono ?_
  rintro e w1 ⟨b, g, T, rfl, hc1, hb1, hg1, ht1, hw1⟩
  have hTl : ∀ i, i < 3 → T i < w1.heap.size := fun i hi => (hc1.tlb i hi).lt
  have lcb := hc1.lb
  have lcg := hc1.lg
  have HC1 := Lib.hid hc1
  have HT := Lib.hid ht1
  clear hc1 ht1
  go_wp2_with (fail)
  refine (new_ok _ 8 (by decide) (by decide)).mono ?_
  rintro e w2 ⟨mb, mg, mc, rfl, hm2, hb2, hg2, hw2⟩
  have hTm : ∀ i, i < 3 → T i ≠ mg := fun i hi => by have := hTl i hi; omega
  have hTb : ∀ i, i < 3 → T i ≠ mb := fun i hi => by have := hTl i hi; omega
  have HTM := Lib.hid hTm
  have HTB := Lib.hid hTb
  have HM2 := Lib.hid hm2
  have HC2 := Lib.hid (HC1.out.call hw2)
  have hbm : b ≠ mg := by omega
  have hgm : g ≠ mg := by omega
  have hbm2 : b ≠ mb := by omega
  have hgm2 : g ≠ mb := by omega
  have lmg := hm2.lg
  have lmb := hm2.lb
  clear hTm hTb hm2 hTl
  go_wp2_with (first
    | (go_at_call 15; with_reducible refine (store_at w2 mb mg 8 mc _ 0 0 257 HM2.out (by decide) (by decide) hv257).mono ?_; rintro e w4 ⟨rfl, hm4, ho4⟩; have HM4 := Lib.hid hm4; have HO4 := Lib.hid ho4; have HC4 := Lib.hid (HC2.out.blk ho4 hbm hgm HTM.out); clear hm4 ho4)
    | (go_at_call 15; with_reducible refine (store_at w4 mb mg 8 mc _ 64 8 513 HM4.out (by decide) (by decide) hv513).mono ?_; rintro e w5 ⟨rfl, hm5, ho5⟩; have HM5 := Lib.hid hm5; have HO5 := Lib.hid ho5; have HC5 := Lib.hid (HC4.out.blk ho5 hbm hgm HTM.out); clear hm5 ho5))
  have B2 := bgo hw1 hw2
  have B5 : Below W.heap.size W w5 := (B2.trans (HO4.out.below (by omega) (by have := hw2.size; omega))).trans (HO5.out.below (by omega) (by have := hw2.size; have := HO4.out.size; omega))
  clear HM2 HM4 HC2 HC4 HC1 HO4 HO5 B2 hv257 hv513
  go_loopw [15] (fun i wr => ∃ (k : Nat) (M : Nat → Int), k ≤ 8 ∧ i = .int .u64 k ∧ Hid (MemAt wr mb mg 8 mc M) ∧ Hid (CoresAt wr b g 3 3 (fun _ => -1) (fun _ => 0) T (fun _ => S0)) ∧ Below W.heap.size W wr) (fun i _ => 8 - (intOf i).toNat)
  case atStart => exact ⟨0, _, by omega, rfl, HM5, HC5, B5⟩
  case round =>
    clear HM5 HC5 B5
    obtain ⟨k, M, hk, rfl, HM, HC, hB⟩ := hrel
    by_cases hlt : k < 8
    · go_wp2_with (first
        | (go_at_call 15; refine (store_at wr mb mg 8 mc M _ (16 + k) _ HM.out (by omega) (by omega) (wrap_word _)).mono ?_; rintro e w6 ⟨rfl, hm6, ho6⟩; have HM6 := Lib.hid hm6; have HO6 := Lib.hid ho6; clear hm6 ho6))
      go_roundw
      case rel => exact ⟨k + 1, _, by omega, by go_num, HM6, Lib.hid (HC.out.blk HO6.out hbm hgm HTM.out), hB.trans (HO6.out.below (by omega) HM.out.lg)⟩
      case measure => simp [intOf]; omega
    · obtain rfl : k = 8 := by omega
      clear hlt hk
      go_wp2_with (fail)
      go_loopw [16] (fun i wr => ∃ (k : Nat) (R Q : Nat → Int) (S : Nat → TS), k ≤ n ∧ i = .int .i64 k ∧ Hid (MemAt wr mb mg 8 mc M) ∧ Hid (CoresAt wr b g 3 3 R Q T S) ∧ Below W.heap.size W wr) (fun i _ => n - (intOf i).toNat)
      case atStart => exact ⟨0, _, _, _, by omega, rfl, HM, HC, hB⟩
      case round =>
        clear HM HC hB
        obtain ⟨k, R, Q, S, hk, rfl, HM, HC, hB⟩ := hrel
        by_cases hlt : k < n
        · have hlt' : (k : Int) < n := by omega
          obtain ⟨rfl, hpb⟩ := HP.out (by omega)
          obtain ⟨c0, d0, d1⟩ := HD.out k hlt
          have c1 : wr.cell? ⟨pb, off + k, none⟩ = some (.int .i64 (D k)) := (hB.cell (p := ⟨pb, off + k, none⟩) hpb).trans c0
          have l0 := lowI_0 (D k) 8 (by decide)
          have l1 := lowI_1 (D k) 8 (by decide)
          have HLW := Lib.hid (show -9223372036854775808 ≤ D k ∧ D k ≤ 9223372036854775807 from ⟨d0, d1⟩)
          obtain ⟨y, hy⟩ : ∃ q : Nat, lowI (D k) 8 = q := ⟨(lowI (D k) 8).toNat, by omega⟩
          rw [hy] at l0 l1
          have HY := Lib.hid hy
          clear c0 d0 d1 hy
          have hk60 : k ≤ 60 := by omega
          by_cases hof : k < n2
          · have hof' : (k : Int) < n2 := by omega
            obtain ⟨rfl, hpb2⟩ := HP2.out (by omega)
            obtain ⟨e0, f0, f1⟩ := HD2.out k hof
            have e1 : wr.cell? ⟨pb2, off2 + k, none⟩ = some (.int .i64 (D2 k)) := (hB.cell (p := ⟨pb2, off2 + k, none⟩) hpb2).trans e0
            have z0 := lowI_0 (D2 k) 9 (by decide)
            have z1 := lowI_1 (D2 k) 9 (by decide)
            have HLV := Lib.hid (show -9223372036854775808 ≤ D2 k ∧ D2 k ≤ 9223372036854775807 from ⟨f0, f1⟩)
            obtain ⟨z, hz⟩ : ∃ q : Nat, lowI (D2 k) 9 = q := ⟨(lowI (D2 k) 9).toNat, by omega⟩
            rw [hz] at z0 z1
            have HZ := Lib.hid hz
            clear e0 f0 f1 hz
            obtain ⟨K, hK⟩ : ∃ K : Nat, (z : Int) % 3 = K := ⟨z % 3, by omega⟩
            have hK3 : K < 3 := by omega
            have HK := Lib.hid hK
            have hz1 : (1 : Int) ≤ 1 + (z : Int) / 3 := by omega
            clear hK
            go_wp2_with (first
              | (go_at_call 20; (with_reducible refine (low_any (D k) 8 _ HLW.out (by decide) (by decide)).mono ?_); rw [HY.out]; rintro e w8 ⟨rfl, rfl⟩)
              | (go_at_call 20; (with_reducible refine (low_any (D2 k) 9 _ HLV.out (by decide) (by decide)).mono ?_); rw [HZ.out]; rintro e w7 ⟨rfl, rfl⟩)
              | (go_at_call 19; rw [HK.out]; refine (cset_some wr b g 3 3 K R Q T S 0 _ HC.out hK3 (by decide) (by decide) hz1).mono ?_; rintro e w3 ⟨rfl, hc3, ho3⟩; have HC3 := Lib.hid hc3; have HO3 := Lib.hid ho3; have HM3 := Lib.hid (ho3.mem HM.out (Ne.symm hgm2) (Ne.symm hgm)); have c3 : w3.cell? ⟨pb, off + k, none⟩ = some (.int .i64 (D k)) := (cell_of_block (ho3.block pb (Nat.lt_of_lt_of_le hpb hB.size) (by omega))).trans c1; clear hc3 ho3)
              | (go_at_call 24; rw [HK.out]; refine (ctrans_ok w3 b g 3 3 K _ _ T S mb mg 8 mc M y HC3.out hK3 HM3.out (by unfold setR; rw [if_pos rfl]; decide) (by omega) (by omega)).mono ?_; rintro e w4 ⟨rfl, hc4, ho4⟩; have HC4 := Lib.hid hc4; have HO4 := Lib.hid ho4; have HM4 := Lib.hid (HM3.out.of_blocks ho4.size (ho4.block _ HM3.out.lb (fun e => HTB.out K hK3 e.symm)) (ho4.block _ HM3.out.lg (fun e => HTM.out K hK3 e.symm))); clear hc4 ho4))
            go_roundw
            case rel => (repeat apply Exists.intro); exact ⟨⟨k + 1, _, _, _, by omega, by go_num, HM4, HC4, (hB.trans (HO3.out.below hg1 HC.out.lg)).trans (HO4.out.below (HT.out K hK3) ((HC3.out.tlb K hK3).lt))⟩, rfl⟩
            case measure => simp [intOf]; omega
          · have hof' : ¬ (k : Int) < n2 := by omega
            clear hof
            go_wp2_with (first
              | (go_at_call 20; (with_reducible refine (low_any (D k) 8 _ HLW.out (by decide) (by decide)).mono ?_); rw [HY.out]; rintro e w8 ⟨rfl, rfl⟩)
              | (go_at_call 19; refine (cset_some wr b g 3 3 0 R Q T S 0 _ HC.out (by decide) (by decide) (by decide) (by decide)).mono ?_; rintro e w3 ⟨rfl, hc3, ho3⟩; have HC3 := Lib.hid hc3; have HO3 := Lib.hid ho3; have HM3 := Lib.hid (ho3.mem HM.out (Ne.symm hgm2) (Ne.symm hgm)); have c3 : w3.cell? ⟨pb, off + k, none⟩ = some (.int .i64 (D k)) := (cell_of_block (ho3.block pb (Nat.lt_of_lt_of_le hpb hB.size) (by omega))).trans c1; clear hc3 ho3)
              | (go_at_call 24; refine (ctrans_ok w3 b g 3 3 0 _ _ T S mb mg 8 mc M y HC3.out (by decide) HM3.out (by unfold setR; rw [if_pos rfl]; decide) (by omega) (by omega)).mono ?_; rintro e w4 ⟨rfl, hc4, ho4⟩; have HC4 := Lib.hid hc4; have HO4 := Lib.hid ho4; have HM4 := Lib.hid (HM3.out.of_blocks ho4.size (ho4.block _ HM3.out.lb (fun e => HTB.out 0 (by decide) e.symm)) (ho4.block _ HM3.out.lg (fun e => HTM.out 0 (by decide) e.symm))); clear hc4 ho4))
            go_roundw
            case rel => (repeat apply Exists.intro); exact ⟨⟨k + 1, _, _, _, by omega, by go_num, HM4, HC4, (hB.trans (HO3.out.below hg1 HC.out.lg)).trans (HO4.out.below (HT.out 0 (by decide)) ((HC3.out.tlb 0 (by decide)).lt))⟩, rfl⟩
            case measure => simp [intOf]; omega
        · obtain rfl : k = n := by omega
          clear hlt hk HD HP HD2 HP2 HM
          go_wp2_with (first
            | (go_at_call 20; (with_reducible refine (low_any a2 3 _ HA2.out (by decide) (by decide)).mono ?_); rw [HSP.out]; rintro e w7 ⟨rfl, rfl⟩)
            | (go_at_call 20; (with_reducible refine (low_any a3 8 _ HA3.out (by decide) (by decide)).mono ?_); rw [HPG.out]; rintro e w8 ⟨rfl, rfl⟩))
          obtain ⟨out, hout⟩ : ∃ o, outB al (1 + (sp : Int)) (pg : Int) = o := ⟨_, rfl⟩
          have HOUT := Lib.hid hout
          clear hout
          go_loopw [18, 19, 20] (fun x y i wr => ∃ k n0 m0 : Nat, k ≤ 3 ∧ x = .int .i64 n0 ∧ y = .int .i64 m0 ∧ i = .int .i64 k ∧ Hid (n0 = nC S out k ∧ m0 + n0 = aC S k) ∧ Hid (CoresAt wr b g 3 3 R Q T S) ∧ Below W.heap.size W wr) (fun _ _ i _ => 3 - (intOf i).toNat)
          case atStart => exact ⟨0, 0, 0, by omega, rfl, rfl, rfl, Lib.hid ⟨rfl, rfl⟩, HC, hB⟩
          case round =>
            clear HC hB
            obtain ⟨k, n0, m0, hk, rfl, rfl, rfl, HNM, HC, hB⟩ := hrel
            have hb24 : n0 + m0 ≤ 8 * k := by have := HNM.out; have := aC_le S k; omega
            by_cases hlt : k < 3
            · have hlt' : (k : Int) < 3 := by omega
              obtain ⟨N, hN⟩ : ∃ x, allN (S k) = x := ⟨_, rfl⟩
              have HNN := Lib.hid hN
              have hN8 : N ≤ 8 := hN ▸ allN_le (S k)
              clear hN
              go_wp2_with (first
                | (go_at_call 26; refine (call_ok _ b g 3 3 k R Q T S HC.out hlt).mono ?_; rw [HNN.out]; rintro e w8 ⟨ps, cs, gs, rfl, hp8, hr8, hb8⟩; have HP8 := Lib.hid hp8; have HR8 := Lib.hid hr8; clear hp8 hr8))
              go_loopw [18, 19, 22] (fun x y j wq => ∃ l n1 m1 : Nat, l ≤ N ∧ x = .int .i64 n1 ∧ y = .int .i64 m1 ∧ j = .int .i64 l ∧ Hid (n1 + leftC (S k) out l = n0 + leftC (S k) out 0) ∧ m1 + n1 = m0 + n0 + l ∧ Below w8.heap.size w8 wq) (fun _ _ j _ => N - (intOf j).toNat)
              case atStart => exact ⟨0, n0, m0, by omega, rfl, rfl, rfl, Lib.hid rfl, rfl, Below.refl _ _⟩
              case round =>
                obtain ⟨l, n1, m1, hl, rfl, rfl, rfl, HN1, hm1, hq⟩ := hrel
                by_cases hll : l < N
                · have hll' : (l : Int) < N := by omega
                  obtain ⟨rfl, hg1', hg2'⟩ := HP8.out (by omega)
                  have hrow := HR8.out l (by first | omega | (rw [HNN.out]; exact hll))
                  have hsuc := leftC_succ (S := S k) out (i := l) (by rw [HNN.out]; exact hll)
                  obtain ⟨⟨xs, xp, xf, xr, xw⟩, hx⟩ : ∃ y, allT (S k) l = y := ⟨_, rfl⟩
                  rw [hx] at hrow hsuc
                  obtain ⟨c0, c1, c2, c3, c4⟩ := hrow
                  have d0 : wr.cell? ⟨gs, l * 5, none⟩ = some (.int .i64 xs) := (hq.cell (p := ⟨gs, l * 5, none⟩) hg2').trans c0
                  have d1 : wr.cell? ⟨gs, l * 5 + 1, none⟩ = some (.int .i64 xp) := (hq.cell (p := ⟨gs, l * 5 + 1, none⟩) hg2').trans c1
                  have hlo := leftC_le (S k) out 0
                  obtain ⟨o, ho⟩ : ∃ o, out ⟨xs, xp, xf, xr, xw⟩ = o := ⟨_, rfl⟩
                  rw [ho] at hsuc
                  rw [← HOUT.out] at ho
                  simp only [outB] at ho
                  have HSUC := Lib.hid hsuc
                  clear c0 c1 c2 c3 c4 hx hsuc
                  by_cases hs : xs = 1 + (sp : Int)
                  · have hsb : (xs == 1 + (sp : Int)) = true := beq_iff_eq.2 hs
                    rw [hsb] at ho
                    by_cases hpq : xp = (pg : Int)
                    · have hpb : (xp == (pg : Int)) = true := beq_iff_eq.2 hpq
                      rw [hpb] at ho
                      cases al
                      all_goals
                        obtain rfl : o = true := by simpa using ho.symm
                        go_wp2
                        go_roundw
                        case rel => exact ⟨l + 1, n1 + 1, m1, by omega, by go_num, rfl, by go_num, Lib.hid (by have h5 := HSUC.out; have h6 := HN1.out; rw [if_pos rfl] at h5; omega), by omega, hq⟩
                        case measure => simp [intOf]; omega
                    · have hpb : (xp == (pg : Int)) = false := beq_eq_false_iff_ne.2 hpq
                      rw [hpb] at ho
                      cases al
                      · obtain rfl : o = false := by simpa using ho.symm
                        go_wp2
                        go_roundw
                        case rel => exact ⟨l + 1, n1, m1 + 1, by omega, rfl, by go_num, by go_num, Lib.hid (by have h5 := HSUC.out; have h6 := HN1.out; rw [if_neg (by decide)] at h5; omega), by omega, hq⟩
                        case measure => simp [intOf]; omega
                      · obtain rfl : o = true := by simpa using ho.symm
                        go_wp2
                        go_roundw
                        case rel => exact ⟨l + 1, n1 + 1, m1, by omega, by go_num, rfl, by go_num, Lib.hid (by have h5 := HSUC.out; have h6 := HN1.out; rw [if_pos rfl] at h5; omega), by omega, hq⟩
                        case measure => simp [intOf]; omega
                  · have hsb : (xs == 1 + (sp : Int)) = false := beq_eq_false_iff_ne.2 hs
                    rw [hsb] at ho
                    obtain rfl : o = false := by simpa using ho.symm
                    go_wp2
                    go_roundw
                    case rel => exact ⟨l + 1, n1, m1 + 1, by omega, rfl, by go_num, by go_num, Lib.hid (by have h5 := HSUC.out; have h6 := HN1.out; rw [if_neg (by decide)] at h5; omega), by omega, hq⟩
                    case measure => simp [intOf]; omega
                · obtain rfl : l = N := by omega
                  go_wp2
                  go_roundw
                  case rel => exact ⟨k + 1, n1, m1, by omega, rfl, rfl, by go_num, Lib.hid (by have h5 := HN1.out; have h6 := leftC_end (S k) out; rw [HNN.out] at h6; have h7 := HNM.out; unfold nC aC; rw [HNN.out]; omega), Lib.hid (HC.out.call (bgo hb8 hq)), bgo hB (bgo hb8 hq)⟩
                  case measure => simp [intOf]; omega
            · obtain rfl : k = 3 := by omega
              clear hlt hk
              have HS : Hid ((dropL S out (frs 3 3)).2 = n0) := Lib.hid (by rw [dropL_cntS S out 3 (Nat.le_refl _)]; exact HNM.out.1.symm)
              have HM0 : Hid (aC (dS S out) 3 = m0) := Lib.hid (by have h1 := aC_drop S out 3 (Nat.le_refl _); have h2 := HNM.out; omega)
              clear HNM
              cases al
              case' false =>
                have HPO : Hid (pageOut (1 + (sp : Int)) (pg : Int) = out) := Lib.hid (by rw [← HOUT.out, outB_false])
                go_wp2_with (first
                  | (go_at_call 21; (with_reducible refine (callsIn_wide.1 (cdropP_in wr b g 3 3 R Q T S (1 + (sp : Int)) (pg : Int) HC.out)).mono ?_); rw [HPO.out, HS.out]; rintro e w3 ⟨rfl, hc3, ho3⟩; have HC3 : Hid (CoresAt w3 b g 3 3 R Q T (dS S out)) := Lib.hid hc3; have HO3 := Lib.hid ho3; clear hc3 ho3))
              case' true =>
                have HPO : Hid (spaceOut (1 + (sp : Int)) = out) := Lib.hid (by rw [← HOUT.out, outB_true])
                go_wp2_with (first
                  | (go_at_call 27; (with_reducible refine (callsIn_wide.1 (cdropS_in wr b g 3 3 R Q T S (1 + (sp : Int)) HC.out)).mono ?_); rw [HPO.out, HS.out]; rintro e w3 ⟨rfl, hc3, ho3⟩; have HC3 : Hid (CoresAt w3 b g 3 3 R Q T (dS S out)) := Lib.hid hc3; have HO3 := Lib.hid ho3; clear hc3 ho3))
              all_goals
                have B3 : Below W.heap.size W w3 := hB.trans (HO3.out.below hB.size (fun i hi => HT.out i hi))
                clear HC hB HO3 HPO HS
                go_loopw [19, 23] (fun y i wr => ∃ (k : Nat) (z : Int), k ≤ 3 ∧ y = .int .i64 z ∧ i = .int .i64 k ∧ Hid (z + aC (dS S out) k = m0) ∧ Hid (CoresAt wr b g 3 3 R Q T (dS S out)) ∧ Below W.heap.size W wr) (fun _ i _ => 3 - (intOf i).toNat)
                case atStart => exact ⟨0, m0, by omega, rfl, rfl, Lib.hid (by simp [aC]), HC3, B3⟩
                case round =>
                  clear HC3 B3
                  obtain ⟨k, z, hk, rfl, rfl, HZ, HC, hB⟩ := hrel
                  have hzb : -24 ≤ z ∧ z ≤ 24 := by have h1 := HZ.out; have h2 := aC_le (dS S out) k; omega
                  by_cases hlt : k < 3
                  · have hlt' : (k : Int) < 3 := by omega
                    obtain ⟨N, hN⟩ : ∃ x, allN (dS S out k) = x := ⟨_, rfl⟩
                    have HNN := Lib.hid hN
                    have hN8 : N ≤ 8 := hN ▸ allN_le _
                    clear hN
                    go_wp2_with (first
                      | (go_at_call 26; refine (call_ok _ b g 3 3 k R Q T (dS S out) HC.out hlt).mono ?_; rw [HNN.out]; rintro e w8 ⟨ps, cs, gs, rfl, hp8, hr8, hb8⟩; have HP8 := Lib.hid hp8; have HR8 := Lib.hid hr8; clear hp8 hr8))
                    go_loopw [19, 25] (fun y j wq => ∃ (l : Nat) (z1 : Int), l ≤ N ∧ y = .int .i64 z1 ∧ j = .int .i64 l ∧ z1 + l = z ∧ Below w8.heap.size w8 wq) (fun _ j _ => N - (intOf j).toNat)
                    case atStart => exact ⟨0, z, by omega, rfl, rfl, by omega, Below.refl _ _⟩
                    case round =>
                      obtain ⟨l, z1, hl, rfl, rfl, hz1, hq⟩ := hrel
                      by_cases hll : l < N
                      · have hll' : (l : Int) < N := by omega
                        obtain ⟨rfl, hg1', hg2'⟩ := HP8.out (by omega)
                        have hrow := HR8.out l (by first | omega | (rw [HNN.out]; exact hll))
                        have ho : out (allT (dS S out k) l) = false := by
                          rw [dS_at S out hlt]
                          exact drop_row (S k) out (by rw [← dS_at S out hlt, HNN.out]; exact hll)
                        obtain ⟨⟨xs, xp, xf, xr, xw⟩, hx⟩ : ∃ y, allT (dS S out k) l = y := ⟨_, rfl⟩
                        rw [hx] at hrow ho
                        obtain ⟨c0, c1, c2, c3, c4⟩ := hrow
                        have d0 : wr.cell? ⟨gs, l * 5, none⟩ = some (.int .i64 xs) := (hq.cell (p := ⟨gs, l * 5, none⟩) hg2').trans c0
                        have d1 : wr.cell? ⟨gs, l * 5 + 1, none⟩ = some (.int .i64 xp) := (hq.cell (p := ⟨gs, l * 5 + 1, none⟩) hg2').trans c1
                        rw [← HOUT.out] at ho
                        simp only [outB] at ho
                        clear c0 c1 c2 c3 c4 hx
                        by_cases hs : xs = 1 + (sp : Int)
                        · have hsb : (xs == 1 + (sp : Int)) = true := beq_iff_eq.2 hs
                          rw [hsb] at ho
                          first
                            | (exfalso; revert ho; simp; done)
                            | (have hpb : (xp == (pg : Int)) = false := (by cases hb : (xp == (pg : Int)); rfl; rw [hb] at ho; exact absurd ho (by decide))
                               have hpq : ¬ xp = (pg : Int) := beq_eq_false_iff_ne.1 hpb
                               go_wp2
                               go_roundw
                               case rel => exact ⟨l + 1, z1 - 1, by omega, rfl, by go_num, by omega, hq⟩
                               case measure => simp [intOf]; omega)
                        · have hsb : (xs == 1 + (sp : Int)) = false := beq_eq_false_iff_ne.2 hs
                          go_wp2
                          go_roundw
                          case rel => exact ⟨l + 1, z1 - 1, by omega, rfl, by go_num, by omega, hq⟩
                          case measure => simp [intOf]; omega
                      · obtain rfl : l = N := by omega
                        go_wp2
                        go_roundw
                        case rel => exact ⟨k + 1, z1, by omega, rfl, by go_num, Lib.hid (by have h5 := HZ.out; unfold aC; rw [HNN.out]; omega), Lib.hid (HC.out.call (bgo hb8 hq)), bgo hB (bgo hb8 hq)⟩
                        case measure => simp [intOf]; omega
                  · obtain rfl : k = 3 := by omega
                    obtain rfl : z = 0 := by have h1 := HZ.out; have h2 := HM0.out; omega
                    go_wp2_with (first
                      | (go_at_call 9; refine (awake7 _).mono ?_; rintro e w9 ⟨rfl, hb9⟩))
                    go_ret
                    exact ⟨rfl, bgo hB hb9⟩
end Go.Proofs.Ytedapbliebiblaa
