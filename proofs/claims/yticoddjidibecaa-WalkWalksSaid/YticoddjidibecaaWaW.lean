/- The law WalkWalks. -/
import Derived.Test.YticoddjidibecaaWaS
namespace Go.Proofs.Yticoddjidibecaa
set_option linter.unusedVariables false
set_option linter.unusedSimpArgs false
open Go.ChangeShapes Go.WideShapes Go.ChangeAt Go.RowKit Go.Shelf

theorem depth_nil (w : World) (r p : Int) : Calls Try.prog 12 #[.pointer none, .int .i64 r, .int .i64 p] w fun e w' => e = .returned (.int .i64 0) ∧ Below w.heap.size w w' :=
  callsIn_wide.1 (depth_in w none r p (fun _ => (0, 1)) fun W l _ _ _ => at_nil W r p l)
theorem rdepth_nil (w : World) (r p : Int) : Calls Try.prog 13 #[.pointer none, .int .i64 r, .int .i64 p] w fun e w' => e = .returned (.int .i64 0) ∧ Below w.heap.size w w' :=
  rdepth_of w none r p (fun _ => (0, 1)) fun W l _ _ _ => rat_nil W r p l
theorem rdepth_any (w : World) (b g n c : Nat) (m : Nat → Int) (r p : Int) (hM : RefAt w b g n c m) :
    Calls Try.prog 13 #[.pointer (some ⟨b, 0, none⟩), .int .i64 r, .int .i64 p] w fun e w' => e = .returned (.int .i64 (depthN (atF n m r p))) ∧ Below w.heap.size w w' := by
  rw [← last_at]
  exact rdepth_of w (some ⟨b, 0, none⟩) r p (atF n m r p) fun W l hb _ _ => rat_gen W b g n c m r p l (hM.call hb)
theorem walkV_form (n : Nat) (m : Nat → Int) (r p : Int) : ∃ v l rr x f, walkV n m r p = entV v l rr x f := by
  unfold walkV
  split
  · exact ⟨_, _, _, _, _, rfl⟩
  · exact ⟨_, _, _, _, _, rfl⟩
theorem eqE (v l r x : Bool) (f : Int) (w : World) : (binOp .eql 38 (entV v l r x f) (entV v l r x f)).run Try.prog w = .ok (.bool true) w := by
  cases v <;> cases l <;> cases r <;> cases x <;> (go_simp; try simp)
set_option maxRecDepth 100000 in
set_option maxHeartbeats 4000000 in
theorem walk_walkWalks {W : World} (fr : Int) (wf0 : (Lit.int .i64 fr).wf = true) (p : Option Addr) (n c : Nat) (hx : n ≤ c ∧ c ≤ maxLen ∧ ∃ D, WordsAt W p n D) (a2 : Int) (wf2 : (Lit.int .i64 a2).wf = true) (a3 : Int) (wf3 : (Lit.int .i64 a3).wf = true) (a4 : Int) (wf4 : (Lit.int .i64 a4).wf = true) :
    Calls Try.prog 3 #[.int .i64 fr, .slice p n c, .int .i64 a2, .int .i64 a3, .int .i64 a4] W fun e w' => e = .returned (.bool true) ∧ Below W.heap.size W w' := by
  obtain ⟨-, -, D, hD⟩ := hx
  have HD := Lib.hid hD
  clear hD wf0 wf2 wf3 wf4
  by_cases hn : 128 < n
  · go_enter Try.func3, Try.ntmps3
    go_wp2_with (first
      | (go_at_call 7; refine (awake5 _).mono ?_; rintro e w3 ⟨rfl, hb3⟩))
    go_ret
    exact ⟨rfl, hb3⟩
  have hn' : n ≤ 128 := by omega
  clear hn
  by_cases hfr : fr < 1 ∨ 64 < fr
  · have HFR := Lib.hid hfr
    clear hfr
    go_enter Try.func3, Try.ntmps3
    go_wp2_with (first
      | (go_at_call 8; refine (both_no W fr p n c HFR.out).mono ?_; rintro e w1 ⟨rfl, hb1⟩)
      | (go_at_call 9; refine (at_nil _ a2 a3 a4).mono ?_; rintro e w2 ⟨rfl, hb2⟩)
      | (go_at_call 10; refine (rat_nil _ a2 a3 a4).mono ?_; rintro e w3 ⟨rfl, hb3⟩)
      | (go_at_call 11; refine (num_any _ 1).mono ?_; rintro e w4 ⟨rfl, rfl⟩)
      | (go_at_call 12; refine (depth_nil _ a2 a3).mono ?_; rintro e w5 ⟨rfl, hb5⟩)
      | (go_at_call 13; refine (rdepth_nil _ a2 a3).mono ?_; rintro e w6 ⟨rfl, hb6⟩)
      | (go_at_call 7; refine (awake5 _).mono ?_; rintro e w7 ⟨rfl, hb7⟩))
    go_ret
    exact ⟨rfl, bgo (bgo (bgo (bgo (bgo hb1 hb2) hb3) hb5) hb6) hb7⟩
  · obtain ⟨N, rfl⟩ : ∃ N : Nat, fr = N := ⟨fr.toNat, by omega⟩
    have n1 : 1 ≤ N := by omega
    have n64 : N ≤ 64 := by omega
    clear hfr
    obtain ⟨M, hM⟩ : ∃ M, memL N D n = M := ⟨_, rfl⟩
    have HM := Lib.hid hM
    obtain ⟨⟨a, e1⟩, hac⟩ : ∃ z, atF N M a2 a3 a4 = z := ⟨_, rfl⟩
    obtain ⟨d, hd⟩ : ∃ d, depthN (atF N M a2 a3) = d := ⟨_, rfl⟩
    obtain ⟨wc, hwc⟩ : ∃ d, walkC N M a2 a3 = d := ⟨_, rfl⟩
    obtain ⟨v, l, rr, xx, f, hwv⟩ := walkV_form N M a2 a3
    have HAC := Lib.hid hac
    have HDD := Lib.hid hd
    have HWC := Lib.hid hwc
    have HWV := Lib.hid hwv
    have EQ := eqE v l rr xx f
    clear hM hac hd hwc hwv
    go_enter Try.func3, Try.ntmps3
    go_wp2_with (fail)
    refine (both_yes W N p n c D n1 n64 hn' HD.out).mono ?_
    rintro e w1 ⟨b, g, c1, rb, rg, rc, rfl, hm1, hr1, hb1⟩
    rw [HM.out] at hm1 hr1
    have HM1 := Lib.hid hm1
    have HR1 := Lib.hid hr1
    clear hm1 hr1
    go_wp2_with (first
      | (go_at_call 9; refine (at_gen _ b g N c1 M a2 a3 a4 HM1.out).mono ?_; rw [HAC.out]; rintro e w2 ⟨rfl, hb2⟩; have HM2 := Lib.hid (HM1.out.call hb2); have HR2 := Lib.hid (HR1.out.call hb2))
      | (go_at_call 10; refine (rat_gen _ rb rg N rc M a2 a3 a4 HR2.out).mono ?_; rw [HAC.out]; rintro e w3 ⟨rfl, hb3⟩; have HM3 := Lib.hid (HM2.out.call hb3); have HR3 := Lib.hid (HR2.out.call hb3))
      | (go_at_call 11; first | (with_reducible refine (num_any _ e1).mono ?_; rintro e w4 ⟨rfl, rfl⟩) | (with_reducible refine (num_any _ wc).mono ?_; rintro e w4 ⟨rfl, rfl⟩))
      | (go_at_call 12; refine (depth_any _ b g N c1 M a2 a3 HM3.out).mono ?_; rw [HDD.out]; rintro e w5 ⟨rfl, hb5⟩; have HM5 := Lib.hid (HM3.out.call hb5); have HR5 := Lib.hid (HR3.out.call hb5))
      | (go_at_call 13; refine (rdepth_any _ rb rg N rc M a2 a3 HR5.out).mono ?_; rw [HDD.out]; rintro e w6 ⟨rfl, hb6⟩; have HM6 := Lib.hid (HM5.out.call hb6); have HR6 := Lib.hid (HR5.out.call hb6))
      | (go_at_call 14; refine (walk_gen _ b g N c1 M a2 a3 HM6.out).mono ?_; rw [HWC.out, HWV.out]; rintro e w7 ⟨rfl, hb7⟩)
      | (go_at_call 15; refine (rwalk_gen _ rb rg N rc M a2 a3 (HR6.out.call (bal hb7 _))).mono ?_; rw [HWC.out, HWV.out]; rintro e w8 ⟨rfl, hb8⟩; obtain ⟨x0, x1, x2, x3, x4⟩ := (ent_new w7 v l rr xx f).keep (by simp) hb8; have hz8 : w7.heap.size < w8.heap.size := (by have := hb8.size; simp at this; omega))
      | (go_at_call 7; refine (awake5 _).mono ?_; rintro e w9 ⟨rfl, hb9⟩))
    go_ret
    exact ⟨rfl, bgo (bal (bgo (bal (bgo (bgo (bgo (bgo (bgo hb1 hb2) hb3) hb5) hb6) hb7) _) hb8) _) hb9⟩
end Go.Proofs.Yticoddjidibecaa
