/- The law TlbOnce. -/
import Derived.Test.YtimgiplcejcaaaaTlbS
import Derived.Test.YtimgiplcejcaaaaLowL
import Derived.Deep.QuietTactic
import Derived.BigQuiet
namespace Go.Proofs.Ytimgiplcejcaaaa
set_option linter.unusedVariables false
set_option linter.unusedSimpArgs false
open Go.ChangeShapes Go.WideShapes Go.ChangeAt Go.RowKit

theorem low_set {x : TransX} (h : mayX x = true) : lowI x.p 4 = (setNo x.p : Nat) := by
  have := may_pos h
  unfold lowI setNo
  omega
/-- The four counts. -/
def CntAt (w : World) (b : Nat) (C : Nat → Nat) : Prop := ∀ j, j < 4 → w.cell? ⟨b, j, none⟩ = some (.int .i64 (C j))
theorem cnt_new (W : World) (S : Nat → TransX × TransX × Int) : CntAt (W.alloc (.cells #[.int .i64 0, .int .i64 0, .int .i64 0, .int .i64 0] 31)) W.heap.size (cntT S 0) := by
  intro j hj
  rw [cnt_zero]
  obtain rfl | rfl | rfl | rfl : j = 0 ∨ j = 1 ∨ j = 2 ∨ j = 3 := by omega
  all_goals simp [go_sem]
theorem TCells.below {w w' : World} {g i : Nat} {x : TransX} (h : TCells w g i x) (hk : Below w.heap.size w w') (hb : g < w.heap.size) : TCells w' g i x := by
  obtain ⟨c0, c1, c2, c3, c4⟩ := h
  have e : ∀ j, w'.cell? ⟨g, j, none⟩ = w.cell? ⟨g, j, none⟩ := fun j => hk.cell (p := ⟨g, j, none⟩) hb
  exact ⟨(e _).trans c0, (e _).trans c1, (e _).trans c2, (e _).trans c3, (e _).trans c4⟩
theorem cnt_store {w : World} {b k : Nat} {S : Nat → TransX × TransX × Int} (h : CntAt w b (cntT S k)) (hF : ∀ j, w.frozen? ⟨b, j, none⟩ = false) (hS : Good S) (hk : k < allN S) (hb : b < w.heap.size) :
    CntAt (w.setCell ⟨b, setNo (allT S k).p, none⟩ (.int .i64 ((cntT S k (setNo (allT S k).p) : Nat) + 1))) b (cntT S (k + 1)) ∧ (∀ j, (w.setCell ⟨b, setNo (allT S k).p, none⟩ (.int .i64 ((cntT S k (setNo (allT S k).p) : Nat) + 1))).frozen? ⟨b, j, none⟩ = false) := by
  have hm := may_pos (all_good hS hk).1
  have hs := setNo_lt hm.2.1
  have c := h _ hs
  refine ⟨fun j hj => ?_, fun j => ?_⟩
  · rw [cnt_succ hS hk]
    by_cases e : j = setNo (allT S k).p
    · rw [if_pos e, e]
      simp [go_sem, c]
    · rw [if_neg e]
      have := h j hj
      simp [go_sem, this, e]
  · have := hF j
    simp [go_sem, this]
set_option maxRecDepth 100000 in
set_option maxHeartbeats 2000000 in
theorem walk_tlbOnce {W : World} (p : Option Addr) (n c : Nat) (hx : n ≤ c ∧ c ≤ maxLen ∧ ∃ D, ActsAt W p n D) :
    Calls Try.prog 6 #[.slice p n c] W fun e w' => e = .returned (.bool true) ∧ Below W.heap.size W w' := by
  obtain ⟨h1, h2, D, hD⟩ := hx
  unfold maxLen at h2
  have HD := Lib.hid hD
  clear hD
  by_cases hn : 120 < n
  · go_enter Try.func6, Try.ntmps6
    go_wp2_with (first
      | (go_at_call 9; refine (awake6 _).mono ?_; rintro e w3 ⟨rfl, hb3⟩))
    go_ret
    exact ⟨rfl, hb3⟩
  · have hn' : n ≤ 120 := by omega
    have hG := good_play D n
    obtain ⟨S, hS⟩ : ∃ S, playS D n = S := ⟨_, rfl⟩
    rw [hS] at hG
    have HS := Lib.hid hS
    have HG := Lib.hid hG
    clear hG hn hS
    have hlen : allN S ≤ 8 := fullP_len S 8
    go_enter Try.func6, Try.ntmps6
    go_wp2_with (first
      | (go_at_call 26; refine (played_any W p n c D HD.out hn').mono ?_; rw [HS.out]; rintro e w1 ⟨rfl, ht1, hb1⟩)
      | (go_at_call 22; refine (tall_any _ W.heap.size S ht1 HG.out.ok).mono ?_; rintro e w2 ⟨p2, c2, g, rfl, hp2, hr2, hb2⟩))
    have hB := bgo hb1 hb2
    have hlt1 := ht1.lt
    have HP2 := Lib.hid hp2
    have HR2 := Lib.hid hr2
    clear hp2 hr2
    have hsz := hb2.size
    have hcn : CntAt (w2.alloc (.cells #[.int .i64 0, .int .i64 0, .int .i64 0, .int .i64 0] 31)) w2.heap.size (cntT S 0) := cnt_new w2 S
    have hfz := frozen_new w2 #[.int .i64 0, .int .i64 0, .int .i64 0, .int .i64 0] 31
    go_loopw [6, 7] (fun i _ wr => ∃ k : Nat, k ≤ allN S ∧ i = .int .i64 k ∧ CntAt wr w2.heap.size (cntT S k) ∧ (∀ j, wr.frozen? ⟨w2.heap.size, j, none⟩ = false) ∧ Below w2.heap.size w2 wr ∧ w2.heap.size < wr.heap.size) (fun i _ _ => allN S - (intOf i).toNat)
    case atStart => exact ⟨0, by omega, rfl, hcn, hfz, bal (Below.refl _ _) _, by simp⟩
    case round =>
      obtain ⟨k, hk, rfl, hC, hF, hW, hZ⟩ := hrel
      clear hcn hfz
      by_cases hlt : k < allN S
      · obtain ⟨rfl, hg1, hg2⟩ := HP2.out (by omega)
        have hrow := (HR2.out k hlt).below hW hg2
        have hmay := all_good HG.out hlt
        have hls := low_set hmay.1
        have hmp := may_pos hmay.1
        have hsl := setNo_lt hmp.2.1
        have hcs := cnt_two S k (setNo (allT S k).p)
        have hcc := hC _ hsl
        have hst := cnt_store hC hF HG.out hlt hZ
        have HST := Lib.hid hst
        have HLS := Lib.hid hls
        have HC := Lib.hid hC
        have hp64 : -9223372036854775808 ≤ (allT S k).p ∧ (allT S k).p ≤ 9223372036854775807 := by omega
        have HP64 := Lib.hid hp64
        clear hst hls hC hp64 hmay
        obtain ⟨x, hx⟩ : ∃ x, allT S k = x := ⟨_, rfl⟩
        rw [hx] at hrow hmp hsl hcs hcc HST HLS HP64
        have HX := Lib.hid hx
        clear hx
        obtain ⟨c0, c1, c2, c3, c4⟩ := hrow
        obtain ⟨z, hz⟩ : ∃ z, setNo x.p = z := ⟨_, rfl⟩
        rw [hz] at hsl hcs hcc HST HLS
        clear hz
        obtain ⟨q, hq⟩ : ∃ q, cntT S k z = q := ⟨_, rfl⟩
        rw [hq] at hcs hcc HST
        clear hq
        go_wp2_with (first
          | (go_at_call 27; refine (low_any _ 4 _ HP64.out (by decide) (by decide)).mono ?_; rw [HLS.out]; rintro e w4 ⟨rfl, rfl⟩))
        obtain ⟨wo, hwo⟩ : ∃ wo, wo = wr.setCell ⟨w2.heap.size, z, none⟩ (.int .i64 ((q : Nat) + 1)) := ⟨_, rfl⟩
        have hWo : Below w2.heap.size w2 wo := hwo ▸ hW.setCell (Nat.le_refl _) _
        have hZo : w2.heap.size < wo.heap.size := by rw [hwo]; simpa using hZ
        rw [← hwo] at HST ⊢
        clear hwo
        go_loopw [7] (fun m wi => ∃ j : Nat, j ≤ k ∧ m = .int .i64 j ∧ CntAt wi w2.heap.size (cntT S (k + 1)) ∧ (∀ j, wi.frozen? ⟨w2.heap.size, j, none⟩ = false) ∧ Below w2.heap.size w2 wi ∧ w2.heap.size < wi.heap.size) (fun m _ => k - (intOf m).toNat)
        case atStart => exact ⟨0, by omega, rfl, HST.out.1, HST.out.2, hWo, hZo⟩
        case round =>
          obtain ⟨j, hj, rfl, hC2, hF2, hW2, hZ2⟩ := hrel
          have HC2 := Lib.hid hC2
          have HF2 := Lib.hid hF2
          clear hC2 hF2
          by_cases hjl : j < k
          · have hrow1 := (HR2.out j (by omega)).below hW2 hg2
            have hrow2 := (HR2.out k hlt).below hW2 hg2
            have hon := all_once HG.out hjl hlt
            have hm1 := may_pos (all_good HG.out (Nat.lt_trans hjl hlt)).1
            rw [HX.out] at hon hrow2
            obtain ⟨y, hy⟩ : ∃ y, allT S j = y := ⟨_, rfl⟩
            rw [hy] at hrow1 hon hm1
            clear hy
            obtain ⟨hon1, hon2⟩ := hon
            unfold setNo at hon2
            have hm2 := hmp
            have hrem : y.p % 4 ≤ x.p % 4 := by omega
            obtain ⟨d0, d1, d2, d3, d4⟩ := hrow1
            obtain ⟨e0, e1, e2, e3, e4⟩ := hrow2
            have hyp : 0 ≤ y.p := hm1.2.1
            have hxp : 0 ≤ x.p := hm2.2.1
            clear hon2 hm1 hm2 c0 c1 c2 c3 c4
            cases hs : (y.s == x.s)
            · clear hon1
              go_wp2
              go_quiet (fail)
              all_goals go_wp2
              all_goals go_roundw
              case rel => exact ⟨j + 1, by omega, by go_num, fun i hi => by simpa using HC2.out i hi, fun i => by simpa using HF2.out i, below_drewN hW2 _, by simpa using hZ2⟩
              case measure => simp [intOf]; omega
            · have hpp : (y.p == x.p) = false := beq_eq_false_iff_ne.2 fun e => hon1 ⟨by simpa using hs, e⟩
              clear hon1
              go_wp2
              go_quiet (fail)
              all_goals go_wp2
              all_goals go_roundw
              case rel => exact ⟨j + 1, by omega, by go_num, fun i hi => by simpa using HC2.out i hi, fun i => by simpa using HF2.out i, below_drewN hW2 _, by simpa using hZ2⟩
              case measure => simp [intOf]; omega
          · obtain rfl : j = k := by omega
            go_wp2
            go_roundw
            case rel => exact ⟨j + 1, by omega, by go_num, HC2.out, HF2.out, hW2, hZ2⟩
            case measure => simp [intOf]; omega
      · obtain rfl : k = allN S := by omega
        have q0 := hC 0 (by decide)
        have q1 := hC 1 (by decide)
        have q2 := hC 2 (by decide)
        have q3 := hC 3 (by decide)
        have t0 := cnt_two S (allN S) 0
        have t1 := cnt_two S (allN S) 1
        have t2 := cnt_two S (allN S) 2
        have t3 := cnt_two S (allN S) 3
        clear hC
        go_wp2_with (first
          | (go_at_call 9; refine (awake6 _).mono ?_; rintro e w3 ⟨rfl, hb3⟩))
        go_ret
        exact ⟨rfl, bgo (hB.trans (hW.mono (by omega))) hb3⟩
end Go.Proofs.Ytimgiplcejcaaaa
