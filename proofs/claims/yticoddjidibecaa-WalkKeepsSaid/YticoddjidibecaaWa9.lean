/- The law WalkKeeps. -/
import Derived.Test.YticoddjidibecaaWa8
namespace Go.Proofs.Yticoddjidibecaa
set_option linter.unusedVariables false
set_option linter.unusedSimpArgs false
open Go.ChangeShapes Go.WideShapes Go.ChangeAt Go.RowKit Go.Shelf

set_option maxRecDepth 100000 in
set_option maxHeartbeats 4000000 in
theorem walk_walkKeeps {W : World} (p : Option Addr) (n c : Nat) (hx : n ≤ c ∧ c ≤ maxLen ∧ ∃ D, WordsAt W p n D) (a1 : Int) (wf1 : (Lit.int .i64 a1).wf = true) (a2 : Int) (wf2 : (Lit.int .i64 a2).wf = true) (a3 : Int) (wf3 : (Lit.int .i64 a3).wf = true) :
    Calls Try.prog 6 #[.slice p n c, .int .i64 a1, .int .i64 a2, .int .i64 a3] W fun e w' => e = .returned (.bool true) ∧ Below W.heap.size W w' := by
  obtain ⟨-, -, D, hD⟩ := hx
  have HD := Lib.hid hD
  clear hD wf1 wf2 wf3
  by_cases hn : 128 < n
  · go_enter Try.func6, Try.ntmps6
    go_wp2_with (first
      | (go_at_call 7; refine (awake5 _).mono ?_; rintro e w3 ⟨rfl, hb3⟩))
    go_ret
    exact ⟨rfl, hb3⟩
  have hn' : n ≤ 128 := by omega
  clear hn
  obtain ⟨M, hM⟩ : ∃ M, memL 16 D n = M := ⟨_, rfl⟩
  have HM := Lib.hid hM
  clear hM
  go_enter Try.func6, Try.ntmps6
  go_wp2_with (fail)
  refine (both_yes W 16 p n c D (by decide) (by decide) hn' HD.out).mono ?_
  rintro e w1 ⟨b, g, c1, rb, rg, rc, rfl, hm1, hr1, hb1⟩
  rw [HM.out] at hm1 hr1
  have HM1 := Lib.hid hm1
  have HR1 := Lib.hid hr1
  clear hm1 hr1
  go_wp2_with (first
    | (go_at_call 9; refine (at_gen _ b g 16 c1 M a1 a2 a3 HM1.out).mono ?_; rintro e w2 ⟨rfl, hb2⟩; have HM2 := Lib.hid (HM1.out.call hb2))
    | (go_at_call 14; refine (walk_any _ b g 16 c1 M a1 a2 HM2.out).mono ?_; rintro e w3 ⟨⟨x0, x1, x2, x3, x4, rfl⟩, hb3⟩; have HM3 := Lib.hid (HM2.out.call hb3))
    | (go_at_call 12; refine (depth_any _ b g 16 c1 M a1 a2 HM3.out).mono ?_; rintro e w4 ⟨rfl, hb4⟩; have HM4 := Lib.hid (HM3.out.call hb4)))
  have HR4 := Lib.hid (((HR1.out.call hb2).call hb3).call hb4)
  have hB4 := bgo (bgo (bgo hb1 hb2) hb3) hb4
  go_loopw [11] (fun i wr => ∃ k : Nat, k ≤ 16 ∧ i = .int .i64 k ∧ Hid (MemAt wr b g 16 c1 M) ∧ Hid (RefAt wr rb rg 16 rc M) ∧ Below W.heap.size W wr) (fun i _ => 16 - (intOf i).toNat)
  case atStart => exact ⟨0, by omega, rfl, HM4, HR4, hB4⟩
  case round =>
    obtain ⟨f, hf, rfl, HMr, HRr, hB⟩ := hrel
    clear HM1 HR1 HM2 HM3 HM4 HR4
    by_cases hlf : f < 16
    · have hlf' : (f : Int) < 16 := by omega
      go_wp2_with (fail)
      refine (words_ok _ b g 16 c1 f M HMr.out hlf).mono ?_
      rintro e w5 ⟨v5, rfl, hr5, hw5⟩
      obtain ⟨q5, z5, rfl, -, -, -, l5, -, x5⟩ := own_form hr5 (by decide)
      have X5 := Lib.hid x5
      have HR5 := Lib.hid (HRr.out.call hw5)
      have HM5 := Lib.hid (HMr.out.call hw5)
      clear hr5 x5
      go_wp2_with (fail)
      refine (rwords_ok _ rb rg 16 rc f M HR5.out hlf).mono ?_
      rintro e w6 ⟨v6, rfl, hr6, hw6⟩
      obtain ⟨q6, z6, rfl, -, -, -, l6, -, x6⟩ := own_form hr6 (by decide)
      have X6 := Lib.hid x6
      have HR6 := Lib.hid (HR5.out.call hw6)
      have HM6 := Lib.hid (HM5.out.call hw6)
      have hB6 : Below W.heap.size W w6 := bgo (bgo hB hw5) hw6
      clear hr6 x6 HR5 HM5
      have hs : Calls Try.prog 21 #[.slice (some ⟨q5, 0, none⟩) 8 z5, .slice (some ⟨q6, 0, none⟩) 8 z6] w6 fun e w' => e = .returned (.bool true) ∧ Below w6.heap.size w6 w' :=
        same_any w6 q5 q6 8 z5 z6 (fun j => M (8 * f + j)) (by decide) (fun j hj => (hw6.cell (p := ⟨q5, j, none⟩) l5).trans (X5.out j _ (wordsL_at _ _ _ _ hj))) (fun j hj => X6.out j _ (wordsL_at _ _ _ _ hj))
      have HS := Lib.hid hs
      clear hs
      go_wp2_with (first
        | (go_at_call 21; refine HS.out.mono ?_; rintro e w7 ⟨rfl, hw7⟩))
      go_roundw
      case rel => exact ⟨f + 1, by omega, by go_num, Lib.hid (HM6.out.call hw7), Lib.hid (HR6.out.call hw7), bgo hB6 hw7⟩
      case measure => simp [intOf]; omega
    · obtain rfl : f = 16 := by omega
      go_wp2_with (first
        | (go_at_call 7; refine (awake5 _).mono ?_; rintro e w8 ⟨rfl, hb8⟩))
      go_ret
      exact ⟨rfl, bgo hB hb8⟩
end Go.Proofs.Yticoddjidibecaa
