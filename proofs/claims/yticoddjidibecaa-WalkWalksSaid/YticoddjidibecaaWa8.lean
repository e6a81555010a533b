/- The law WalkChain. -/
import Derived.Test.YticoddjidibecaaWa7
namespace Go.Proofs.Yticoddjidibecaa
set_option linter.unusedVariables false
set_option linter.unusedSimpArgs false
open Go.ChangeShapes Go.WideShapes Go.ChangeAt Go.RowKit Go.Shelf

theorem desc_mono {n : Nat} {m : Nat → Int} {p : Int} : ∀ (left l t : Nat), (descF n m p (left + 1) l t).2 = 0 → (descF n m p left l t).2 = 0 := by
  intro left
  induction left with
  | zero => intro l t _; rfl
  | succ left ih =>
    intro l t h
    unfold descF at h ⊢
    split at h
    · rename_i hc
      rw [if_pos hc]
      exact ih _ _ h
    · rename_i hc
      exact absurd h hc
theorem at_mono {n : Nat} {m : Nat → Int} {r p : Int} (r0 : 0 ≤ r) (r1 : r < n) (p0 : 0 ≤ p) (p1 : p < 512) {l : Int} (h1 : 1 ≤ l) (h3 : l ≤ 2) (h : (atF n m r p (l + 1)).2 = 0) : (atF n m r p l).2 = 0 := by
  unfold atF at h ⊢
  rw [if_pos ⟨r0, r1, p0, p1, by omega, by omega⟩] at h
  rw [if_pos ⟨r0, r1, p0, p1, h1, by omega⟩]
  rw [show (l + 1).toNat - 1 = (l.toNat - 1) + 1 by omega] at h
  exact desc_mono _ _ _ h
theorem at_one {n : Nat} {m : Nat → Int} {r p : Int} (r0 : 0 ≤ r) (r1 : r < n) (p0 : 0 ≤ p) (p1 : p < 512) : (atF n m r p 1).2 = 0 := by
  unfold atF
  rw [if_pos ⟨r0, r1, p0, p1, by omega, by omega⟩]
  rfl
theorem depth_at {n : Nat} {m : Nat → Int} {r p : Int} (r0 : 0 ≤ r) (r1 : r < n) (p0 : 0 ≤ p) (p1 : p < 512) : 1 ≤ depthN (atF n m r p) ∧ depthN (atF n m r p) ≤ 3 ∧ ∀ k, 1 ≤ k → k ≤ 3 → ((atF n m r p k).2 = 0 ↔ k ≤ depthN (atF n m r p)) := by
  have h1 := at_one (m := m) r0 r1 p0 p1
  have m1 := at_mono (m := m) r0 r1 p0 p1 (l := 1) (by decide) (by decide)
  have m2 := at_mono (m := m) r0 r1 p0 p1 (l := 2) (by decide) (by decide)
  simp only [Int.reduceAdd] at m1 m2
  unfold depthN
  rw [if_neg (by simp [h1])]
  refine ⟨by split <;> (try split) <;> omega, by split <;> (try split) <;> omega, fun k k1 k3 => ?_⟩
  obtain rfl | rfl | rfl : k = 1 ∨ k = 2 ∨ k = 3 := by omega
  · exact ⟨fun _ => by split <;> (try split) <;> omega, fun _ => h1⟩
  · by_cases h2 : (atF n m r p 2).2 = 0
    · rw [if_neg (by simp [h2])]
      exact ⟨fun _ => by split <;> omega, fun _ => h2⟩
    · rw [if_pos h2]
      exact ⟨fun h => absurd h h2, fun h => by omega⟩
  · by_cases h3 : (atF n m r p 3).2 = 0
    · rw [if_neg (by simp [m2 h3]), if_neg (by simp [h3])]
      exact ⟨fun _ => by omega, fun _ => h3⟩
    · refine ⟨fun h => absurd h h3, fun h => ?_⟩
      by_cases h2 : (atF n m r p 2).2 = 0
      · rw [if_neg (by simp [h2]), if_pos h3] at h; omega
      · rw [if_pos h2] at h; omega
theorem depth_any (w : World) (b g n c : Nat) (m : Nat → Int) (r p : Int) (hM : MemAt w b g n c m) :
    Calls Try.prog 12 #[.pointer (some ⟨b, 0, none⟩), .int .i64 r, .int .i64 p] w fun e w' => e = .returned (.int .i64 (depthN (atF n m r p))) ∧ Below w.heap.size w w' :=
  callsIn_wide.1 (depth_in w (some ⟨b, 0, none⟩) r p (atF n m r p) fun W l hb _ _ => at_gen W b g n c m r p l (hM.call hb))
/-- Walk, whatever comes. -/
theorem walk_any (w : World) (b g n c : Nat) (m : Nat → Int) (r p : Int) (hM : MemAt w b g n c m) :
    Calls Try.prog 14 #[.pointer (some ⟨b, 0, none⟩), .int .i64 r, .int .i64 p] w fun e w' => (∃ vb l rr x f, e = .returned (.tuple #[entV vb l rr x f, .int .i64 (walkC n m r p)])) ∧ Below w.heap.size w w' := by
  by_cases h : walkC n m r p = 0
  · rw [h]
    exact (walk_ok w b g n c m r p hM h).mono fun e w' ⟨h1, h2⟩ => ⟨⟨_, _, _, _, _, h1⟩, h2⟩
  · exact (walk_no w b g n c m r p _ hM rfl h).mono fun e w' ⟨h1, h2⟩ => ⟨⟨_, _, _, _, _, h1⟩, h2⟩
set_option maxRecDepth 100000 in
set_option maxHeartbeats 4000000 in
theorem walk_walkChain {W : World} (p : Option Addr) (n c : Nat) (hx : n ≤ c ∧ c ≤ maxLen ∧ ∃ D, WordsAt W p n D) (a1 : Int) (wf1 : (Lit.int .i64 a1).wf = true) (a2 : Int) (wf2 : (Lit.int .i64 a2).wf = true) :
    Calls Try.prog 5 #[.slice p n c, .int .i64 a1, .int .i64 a2] W fun e w' => e = .returned (.bool true) ∧ Below W.heap.size W w' := by
  obtain ⟨-, -, D, hD⟩ := hx
  have HD := Lib.hid hD
  have b1 := Lib.hid (show -9223372036854775808 ≤ a1 ∧ a1 ≤ 9223372036854775807 from i64_of wf1)
  have b2 := Lib.hid (show -9223372036854775808 ≤ a2 ∧ a2 ≤ 9223372036854775807 from i64_of wf2)
  clear hD wf1 wf2
  by_cases hn : 128 < n
  · go_enter Try.func5, Try.ntmps5
    go_wp2_with (first
      | (go_at_call 7; refine (awake5 _).mono ?_; rintro e w3 ⟨rfl, hb3⟩))
    go_ret
    exact ⟨rfl, hb3⟩
  have hn' : n ≤ 128 := by omega
  clear hn
  obtain ⟨r, hr⟩ : ∃ r, lowI a1 16 = r := ⟨_, rfl⟩
  obtain ⟨q, hq⟩ : ∃ q, lowI a2 512 = q := ⟨_, rfl⟩
  have r0 : 0 ≤ r := hr ▸ lowI_0 a1 16 (by decide)
  have r1 : r < ((16 : Nat) : Int) := hr ▸ lowI_1 a1 16 (by decide)
  have q0 : 0 ≤ q := hq ▸ lowI_0 a2 512 (by decide)
  have q1 : q < 512 := hq ▸ lowI_1 a2 512 (by decide)
  obtain ⟨M, hM⟩ : ∃ M, memL 16 D n = M := ⟨_, rfl⟩
  obtain ⟨d1, d3, hda⟩ := depth_at (n := 16) (m := M) r0 r1 q0 q1
  have hwc : walkC 16 M r q = 0 → depthN (atF 16 M r q) = 3 := fun h => by
    have h3 : (atF 16 M r q 3).2 = 0 := by
      unfold walkC at h
      split at h
      · assumption
      · exact h
    have := (hda 3 (by decide) (by decide)).1 h3
    omega
  obtain ⟨d, hd⟩ : ∃ d, depthN (atF 16 M r q) = d := ⟨_, rfl⟩
  rw [hd] at d1 d3 hda hwc
  have HR := Lib.hid hr
  have HQ := Lib.hid hq
  have HM := Lib.hid hM
  have HDA := Lib.hid hda
  have HDD := Lib.hid hd
  have HWC := Lib.hid hwc
  clear hr hq hM hda hd hwc
  go_enter Try.func5, Try.ntmps5
  go_wp2_with (first
    | (go_at_call 16; with_reducible refine (low_any a1 16 _ b1.out (by decide) (by decide)).mono ?_; rw [HR.out]; rintro e w4 ⟨rfl, rfl⟩)
    | (go_at_call 16; with_reducible refine (low_any a2 512 _ b2.out (by decide) (by decide)).mono ?_; rw [HQ.out]; rintro e w5 ⟨rfl, rfl⟩))
  refine (both_yes W 16 p n c D (by decide) (by decide) hn' HD.out).mono ?_
  rintro e w1 ⟨b, g, c1, rb, rg, rc, rfl, hm1, hr1, hb1⟩
  rw [HM.out] at hm1
  have HM1 := Lib.hid hm1
  clear hm1 hr1
  go_wp2_with (first
    | (go_at_call 12; refine (depth_any _ b g 16 c1 M r q HM1.out).mono ?_; rw [HDD.out]; rintro e w2 ⟨rfl, hb2⟩; have HM2 := Lib.hid (HM1.out.call hb2)))
  have hB2 := bgo hb1 hb2
  go_loopw [10] (fun i wr => ∃ k : Nat, 1 ≤ k ∧ k ≤ 4 ∧ i = .int .i64 k ∧ Hid (MemAt wr b g 16 c1 M) ∧ Below W.heap.size W wr) (fun i _ => 4 - (intOf i).toNat)
  case atStart => exact ⟨1, by omega, by omega, rfl, HM2, hB2⟩
  case round =>
    obtain ⟨k, hk1, hk4, rfl, HMr, hB⟩ := hrel
    by_cases hlt : k < 4
    · have hlt' : (k : Int) ≤ 3 := by omega
      obtain ⟨⟨a, cd⟩, hac⟩ : ∃ z, atF 16 M r q k = z := ⟨_, rfl⟩
      have hiff := HDA.out k (by omega) hlt'
      rw [hac] at hiff
      simp only at hiff
      have HAC := Lib.hid hac
      clear hac
      by_cases hkd : (k : Int) ≤ d
      · obtain rfl : cd = 0 := hiff.2 hkd
        clear hiff
        go_wp2_with (first
          | (go_at_call 9; refine (at_gen _ b g 16 c1 M r q k HMr.out).mono ?_; rw [HAC.out]; rintro e w6 ⟨rfl, hb6⟩))
        go_roundw
        case rel => exact ⟨k + 1, by omega, by omega, by go_num, Lib.hid (HMr.out.call hb6), bgo hB hb6⟩
        case measure => simp [intOf]; omega
      · have hz : (cd == 0) = false := beq_eq_false_iff_ne.2 (fun e => hkd (hiff.1 e))
        clear hiff
        go_wp2_with (first
          | (go_at_call 9; refine (at_gen _ b g 16 c1 M r q k HMr.out).mono ?_; rw [HAC.out]; rintro e w6 ⟨rfl, hb6⟩))
        go_roundw
        case rel => exact ⟨k + 1, by omega, by omega, by go_num, Lib.hid (HMr.out.call hb6), bgo hB hb6⟩
        case measure => simp [intOf]; omega
    · obtain rfl : k = 4 := by omega
      obtain ⟨f, hf⟩ : ∃ f, walkC 16 M r q = f := ⟨_, rfl⟩
      have HF := Lib.hid hf
      by_cases hz : f = 0
      · have hd3 : d = 3 := HWC.out (by rw [hf, hz])
        subst hd3
        subst hz
        clear hf
        go_wp2_with (first
          | (go_at_call 14; refine (walk_any _ b g 16 c1 M r q HMr.out).mono ?_; rw [HF.out]; rintro e w7 ⟨⟨x0, x1, x2, x3, x4, rfl⟩, hb7⟩)
          | (go_at_call 7; refine (awake5 _).mono ?_; rintro e w8 ⟨rfl, hb8⟩))
        go_ret
        exact ⟨rfl, bgo (bal (bgo hB hb7) _) hb8⟩
      · have hz' : (f == 0) = false := beq_eq_false_iff_ne.2 hz
        have hz2 : (f != 0) = true := bne_iff_ne.2 hz
        clear hf
        go_wp2_with (first
          | (go_at_call 14; refine (walk_any _ b g 16 c1 M r q HMr.out).mono ?_; rw [HF.out]; rintro e w7 ⟨⟨x0, x1, x2, x3, x4, rfl⟩, hb7⟩)
          | (go_at_call 7; refine (awake5 _).mono ?_; rintro e w8 ⟨rfl, hb8⟩))
        go_ret
        exact ⟨rfl, bgo (bal (bgo hB hb7) _) hb8⟩
end Go.Proofs.Yticoddjidibecaa
