/- Chapter 5's own answer: At of anything, Depth, Walk. -/
import Derived.Test.YticoddjidibecaaWaR
namespace Go.Proofs.Yticoddjidibecaa
set_option linter.unusedVariables false
set_option linter.unusedSimpArgs false
open Go.ChangeShapes Go.WideShapes Go.ChangeAt Go.RowKit Go.Shelf

theorem rat_nil (w : World) (r p l : Int) : Calls Try.prog 10 #[.pointer none, .int .i64 r, .int .i64 p, .int .i64 l] w fun e w' => e = .returned (.tuple #[.int .u64 0, .int .i64 1]) ∧ Below w.heap.size w w' := by
  go_enter Try.func10, Try.ntmps10
  go_wp2
  go_ret2
  exact ⟨rfl, Below.refl _ _⟩
theorem rat_bad (w : World) (b g n c : Nat) (m : Nat → Int) (r p l : Int) (hM : RefAt w b g n c m) (h : ¬ (0 ≤ r ∧ r < n ∧ 0 ≤ p ∧ p < 512 ∧ 1 ≤ l ∧ l ≤ 3)) :
    Calls Try.prog 10 #[.pointer (some ⟨b, 0, none⟩), .int .i64 r, .int .i64 p, .int .i64 l] w fun e w' => e = .returned (.tuple #[.int .u64 0, .int .i64 3]) ∧ Below w.heap.size w w' := by
  have HM := Lib.hid hM
  clear hM
  by_cases h1 : r < 0
  · clear h
    go_enter Try.func10, Try.ntmps10
    go_wp2_with (first
      | (go_at_call 28; refine (rframes_any _ b g n c m HM.out).mono ?_; rintro e w1 ⟨rfl, rfl⟩))
    go_ret2
    exact ⟨rfl, Below.refl _ _⟩
  by_cases h2 : (n : Int) ≤ r
  · clear h
    go_enter Try.func10, Try.ntmps10
    go_wp2_with (first
      | (go_at_call 28; refine (rframes_any _ b g n c m HM.out).mono ?_; rintro e w1 ⟨rfl, rfl⟩))
    go_ret2
    exact ⟨rfl, Below.refl _ _⟩
  by_cases h3 : p < 0
  · clear h
    go_enter Try.func10, Try.ntmps10
    go_wp2_with (first
      | (go_at_call 28; refine (rframes_any _ b g n c m HM.out).mono ?_; rintro e w1 ⟨rfl, rfl⟩))
    go_ret2
    exact ⟨rfl, Below.refl _ _⟩
  by_cases h4 : 512 ≤ p
  · clear h
    go_enter Try.func10, Try.ntmps10
    go_wp2_with (first
      | (go_at_call 28; refine (rframes_any _ b g n c m HM.out).mono ?_; rintro e w1 ⟨rfl, rfl⟩))
    go_ret2
    exact ⟨rfl, Below.refl _ _⟩
  by_cases h5 : l < 1
  · clear h
    go_enter Try.func10, Try.ntmps10
    go_wp2_with (first
      | (go_at_call 28; refine (rframes_any _ b g n c m HM.out).mono ?_; rintro e w1 ⟨rfl, rfl⟩))
    go_ret2
    exact ⟨rfl, Below.refl _ _⟩
  have h6 : 3 < l := by omega
  clear h
  go_enter Try.func10, Try.ntmps10
  go_wp2_with (first
    | (go_at_call 28; refine (rframes_any _ b g n c m HM.out).mono ?_; rintro e w1 ⟨rfl, rfl⟩))
  go_ret2
  exact ⟨rfl, Below.refl _ _⟩
theorem rat_gen (w : World) (b g n c : Nat) (m : Nat → Int) (r p l : Int) (hM : RefAt w b g n c m) :
    Calls Try.prog 10 #[.pointer (some ⟨b, 0, none⟩), .int .i64 r, .int .i64 p, .int .i64 l] w fun e w' => e = .returned (.tuple #[.int .u64 (atF n m r p l).1, .int .i64 (atF n m r p l).2]) ∧ Below w.heap.size w w' := by
  by_cases h : 0 ≤ r ∧ r < n ∧ 0 ≤ p ∧ p < 512 ∧ 1 ≤ l ∧ l ≤ 3
  · unfold atF
    rw [if_pos h]
    obtain ⟨R, rfl⟩ := Int.eq_ofNat_of_zero_le h.1
    obtain ⟨L, rfl⟩ := Int.eq_ofNat_of_zero_le (show 0 ≤ l by omega)
    simp only [Int.toNat_natCast]
    exact rat_ok w b g n c m R L p hM (by omega) h.2.2.1 h.2.2.2.1 (by omega) (by omega)
  · have e : atF n m r p l = (0, 3) := by unfold atF; rw [if_neg h]
    rw [e]
    exact rat_bad w b g n c m r p l hM h
def lastOk (A : Int → Int × Int) : Nat → Int
  | 0 => 0
  | k + 1 => if (A ((k : Int) + 1)).2 = 0 then (k : Int) + 1 else lastOk A k
theorem last_at {n : Nat} {m : Nat → Int} {r p : Int} : lastOk (atF n m r p) 3 = depthN (atF n m r p) := by
  by_cases h : 0 ≤ r ∧ r < n ∧ 0 ≤ p ∧ p < 512
  · obtain ⟨d1, d3, hd⟩ := depth_at (m := m) h.1 h.2.1 h.2.2.1 h.2.2.2
    obtain ⟨d, hdd⟩ : ∃ d, depthN (atF n m r p) = d := ⟨_, rfl⟩
    rw [hdd] at d1 d3 hd ⊢
    have a1 := hd 1 (by decide) (by decide)
    have a2 := hd 2 (by decide) (by decide)
    have a3 := hd 3 (by decide) (by decide)
    show (if (atF n m r p 3).2 = 0 then (3 : Int) else if (atF n m r p 2).2 = 0 then (2 : Int) else if (atF n m r p 1).2 = 0 then (1 : Int) else 0) = d
    split
    · omega
    · split
      · omega
      · split <;> omega
  · have e : ∀ l, (atF n m r p l).2 = 3 := fun l => by unfold atF; rw [if_neg (fun hh => h ⟨hh.1, hh.2.1, hh.2.2.1, hh.2.2.2.1⟩)]
    show (if (atF n m r p 3).2 = 0 then (3 : Int) else if (atF n m r p 2).2 = 0 then (2 : Int) else if (atF n m r p 1).2 = 0 then (1 : Int) else 0) = _
    unfold depthN
    simp [e]
set_option maxHeartbeats 2000000 in
theorem rdepth_of (w : World) (mp : Option Addr) (r p : Int) (A : Int → Int × Int)
    (hA : ∀ W l, Below w.heap.size w W → 1 ≤ l → l ≤ 3 → Calls Try.prog 10 #[.pointer mp, .int .i64 r, .int .i64 p, .int .i64 l] W fun e w' => e = .returned (.tuple #[.int .u64 (A l).1, .int .i64 (A l).2]) ∧ Below W.heap.size W w') :
    Calls Try.prog 13 #[.pointer mp, .int .i64 r, .int .i64 p] w fun e w' => e = .returned (.int .i64 (lastOk A 3)) ∧ Below w.heap.size w w' := by
  have HA := Lib.hid hA
  clear hA
  go_enter Try.func13, Try.ntmps13
  go_wp2
  go_loopw [7, 8] (fun d i wr => ∃ k : Nat, k ≤ 3 ∧ d = .int .i64 (lastOk A k) ∧ i = .int .i64 ((k : Int) + 1) ∧ Below w.heap.size w wr) (fun _ i _ => 4 - (intOf i).toNat)
  case atStart => exact ⟨0, by omega, rfl, rfl, Below.refl _ _⟩
  case round =>
    obtain ⟨k, hk, rfl, rfl, hB⟩ := hrel
    by_cases hlt : k < 3
    · have hlt' : (k : Int) + 1 ≤ 3 := by omega
      have HC := Lib.hid (HA.out wr ((k : Int) + 1) hB (by omega) (by omega))
      obtain ⟨⟨a, cd⟩, hac⟩ : ∃ z, A ((k : Int) + 1) = z := ⟨_, rfl⟩
      have HAC := Lib.hid hac
      have hs : lastOk A (k + 1) = if cd = 0 then (k : Int) + 1 else lastOk A k := by
        show (if (A ((k : Int) + 1)).2 = 0 then (k : Int) + 1 else lastOk A k) = _
        rw [hac]
      clear hac
      by_cases hz : cd = 0
      · rw [if_pos hz] at hs
        have HS := Lib.hid hs
        subst hz
        clear hs
        go_wp2_with (first
          | (go_at_call 10; refine HC.out.mono ?_; rw [HAC.out]; rintro e w6 ⟨rfl, hb6⟩))
        go_roundw
        case rel => first | exact ⟨k + 1, by omega, by rw [HS.out], by go_num, bgo hB hb6⟩ | ((repeat apply Exists.intro); exact ⟨⟨k + 1, by omega, congrArg (Value.int IntKind.i64) HS.out.symm, by go_num, bgo hB hb6⟩, rfl⟩)
        case measure => simp [intOf]; omega
      · rw [if_neg hz] at hs
        have HS := Lib.hid hs
        have hz' : (cd == 0) = false := beq_eq_false_iff_ne.2 hz
        clear hs hz
        go_wp2_with (first
          | (go_at_call 10; refine HC.out.mono ?_; rw [HAC.out]; rintro e w6 ⟨rfl, hb6⟩))
        go_roundw
        case rel => first | exact ⟨k + 1, by omega, by rw [HS.out], by go_num, bgo hB hb6⟩ | ((repeat apply Exists.intro); exact ⟨⟨k + 1, by omega, congrArg (Value.int IntKind.i64) HS.out.symm, by go_num, bgo hB hb6⟩, rfl⟩)
        case measure => simp [intOf]; omega
    · obtain rfl : k = 3 := by omega
      go_wp2
      go_ret
      exact ⟨rfl, hB⟩
/-- What Walk tells, whatever comes. -/
def walkV (n : Nat) (m : Nat → Int) (r p : Int) : Value := if walkC n m r p = 0 then entW (leafW m (atF n m r p 3).1) else entV false false false false 0
theorem walk_gen (w : World) (b g n c : Nat) (m : Nat → Int) (r p : Int) (hM : MemAt w b g n c m) :
    Calls Try.prog 14 #[.pointer (some ⟨b, 0, none⟩), .int .i64 r, .int .i64 p] w fun e w' => e = .returned (.tuple #[walkV n m r p, .int .i64 (walkC n m r p)]) ∧ Below w.heap.size w w' := by
  by_cases h : walkC n m r p = 0
  · unfold walkV
    rw [if_pos h, h]
    exact walk_ok w b g n c m r p hM h
  · unfold walkV
    rw [if_neg h]
    exact walk_no w b g n c m r p _ hM rfl h
set_option maxHeartbeats 4000000 in
theorem rwalk_gen (w : World) (b g n c : Nat) (m : Nat → Int) (r p : Int) (hM : RefAt w b g n c m) :
    Calls Try.prog 15 #[.pointer (some ⟨b, 0, none⟩), .int .i64 r, .int .i64 p] w fun e w' => e = .returned (.tuple #[walkV n m r p, .int .i64 (walkC n m r p)]) ∧ Below w.heap.size w w' := by
  obtain ⟨⟨a, c0⟩, hac⟩ : ∃ z, atF n m r p 3 = z := ⟨_, rfl⟩
  have HAC := Lib.hid hac
  have HM := Lib.hid hM
  have hhd := hM.hd
  have hlb := hM.lb
  have hlg := hM.lg
  by_cases h0 : c0 = 0
  · subst h0
    obtain ⟨k, hk, ha⟩ := at_addr (show (atF n m r p 3).2 = 0 by rw [hac])
    rw [hac] at ha
    simp only at ha
    have hlw : leafW m a = (m k).toNat := by unfold leafW; rw [ha]; congr 2; omega
    have hcell := hM.cells k hk
    have hn64 := hM.n64
    have hcap := hM.cap
    obtain ⟨x, hx⟩ : ∃ x, (m k).toNat = x := ⟨_, rfl⟩
    obtain ⟨hx1, hx2⟩ := word_nat (hM.word k)
    rw [hx] at hx1 hx2 hlw
    rw [hx1] at hcell
    have hwc : walkC n m r p = leafC n x := by unfold walkC; rw [hac]; simp only [if_true]; rw [hlw]
    have hwv : leafW m (atF n m r p 3).1 = x := by rw [hac]; exact hlw
    have a0 : 0 ≤ a := by omega
    have a1 : a ≤ 4096 := by omega
    have a4 : 0 ≤ a / 8 := by omega
    have a5 : a / 8 < 8 * (n : Int) := by omega
    have a6 : a / 8 < ((8 * n : Nat) : Int) := by omega
    have a7 : (a / 8).toNat = k := by omega
    obtain ⟨v, l, rr, xx, f, cd, hdec, hval⟩ := decR_gen x hx2
    have HDEC := Lib.hid hdec
    have HVAL := Lib.hid hval
    have HWC := Lib.hid hwc
    have HWV := Lib.hid hwv
    clear hdec hval hx1 hx2 hlw ha hac hM hx hwc hwv
    go_enter Try.func15, Try.ntmps15
    go_wp2_with (first
      | (go_at_call 10; refine (rat_gen _ b g n c m r p 3 (HM.out.call (bal (Below.refl _ _) _))).mono ?_; rw [HAC.out]; rintro e w1 ⟨rfl, hb1⟩; obtain ⟨hc1, hf1⟩ := bcell hb1; have hz1 : w.heap.size < w1.heap.size := (by have := hb1.size; simp at this; omega); have hbl1 : b < w1.heap.size := (by omega); have hgl1 : g < w1.heap.size := (by omega); have hd1 := (HM.out.call (bgo (bal (Below.refl _ _) _) hb1)).hd; have hk1 := ((HM.out.call (bgo (bal (Below.refl _ _) _) hb1)).cells k hk))
      | (go_at_call 29; refine (HDEC.out _).mono ?_; rintro e w2 ⟨rfl, hb2⟩; obtain ⟨hc2, hf2⟩ := bcell hb2; have hz2 : w.heap.size < w2.heap.size := (by have := hb2.size; omega)))
    obtain ⟨V, hV⟩ : ∃ V, V = w2.alloc (.cells #[.bool v, .bool l, .bool rr, .bool xx, .int .i64 f] 38) := ⟨_, rfl⟩
    have hE := ent_new w2 v l rr xx f
    have hB3 : Below w2.heap.size w2 V := by rw [hV]; exact bal (Below.refl _ _) _
    rw [← hV] at hE ⊢
    obtain ⟨y0, y1, y2, y3, y4⟩ := hE
    have hQ : w2.heap.size < V.heap.size := by rw [hV]; simp
    have BV : Below w.heap.size w V := bgo (bgo (bgo (bal (Below.refl _ _) _) hb1) hb2) hB3
    have hzV : w.heap.size < V.heap.size := by omega
    have MV := ((HM.out.call (bgo (bal (Below.refl _ _) _) hb1)).call hb2).call hB3
    have r0 : V.cell? ⟨w.heap.size, 0, none⟩ = some (.bool false) := (hB3.cell (p := ⟨w.heap.size, 0, none⟩) hz2).trans ((hc2 _ _ hz1).trans ((hc1 _ _ (by simp)).trans (by rw [cellE]; rfl)))
    have r1 : V.cell? ⟨w.heap.size, 1, none⟩ = some (.bool false) := (hB3.cell (p := ⟨w.heap.size, 1, none⟩) hz2).trans ((hc2 _ _ hz1).trans ((hc1 _ _ (by simp)).trans (by rw [cellE]; rfl)))
    have r2 : V.cell? ⟨w.heap.size, 2, none⟩ = some (.bool false) := (hB3.cell (p := ⟨w.heap.size, 2, none⟩) hz2).trans ((hc2 _ _ hz1).trans ((hc1 _ _ (by simp)).trans (by rw [cellE]; rfl)))
    have r3 : V.cell? ⟨w.heap.size, 3, none⟩ = some (.bool false) := (hB3.cell (p := ⟨w.heap.size, 3, none⟩) hz2).trans ((hc2 _ _ hz1).trans ((hc1 _ _ (by simp)).trans (by rw [cellE]; rfl)))
    have r4 : V.cell? ⟨w.heap.size, 4, none⟩ = some (.int .i64 0) := (hB3.cell (p := ⟨w.heap.size, 4, none⟩) hz2).trans ((hc2 _ _ hz1).trans ((hc1 _ _ (by simp)).trans (by rw [cellE]; rfl)))
    have fr : ∀ j, V.frozen? ⟨w.heap.size, j, none⟩ = false := fun j => (hB3.frozen (p := ⟨w.heap.size, j, none⟩) hz2).trans ((hf2 _ _ hz1).trans ((hf1 _ _ (by simp)).trans (frozE _ _ _ _)))
    have RZ := Lib.hid (fun w' (hw : KeptQ V.heap.size V w') => (⟨(hw.1.cell (p := ⟨w.heap.size, 0, none⟩) hzV).trans r0, (hw.1.cell (p := ⟨w.heap.size, 1, none⟩) hzV).trans r1, (hw.1.cell (p := ⟨w.heap.size, 2, none⟩) hzV).trans r2, (hw.1.cell (p := ⟨w.heap.size, 3, none⟩) hzV).trans r3, (hw.1.cell (p := ⟨w.heap.size, 4, none⟩) hzV).trans r4⟩ : EntAt w' w.heap.size false false false false 0))
    have RF := Lib.hid (fun w' (hw : KeptQ V.heap.size V w') j => (hw.1.frozen (p := ⟨w.heap.size, j, none⟩) hzV).trans (fr j))
    have R0 := Lib.hid (fun w' (hw : KeptQ V.heap.size V w') => (hw.1.cell (p := ⟨w2.heap.size, 0, none⟩) hQ).trans y0)
    have R1 := Lib.hid (fun w' (hw : KeptQ V.heap.size V w') => (hw.1.cell (p := ⟨w2.heap.size, 1, none⟩) hQ).trans y1)
    have R2 := Lib.hid (fun w' (hw : KeptQ V.heap.size V w') => (hw.1.cell (p := ⟨w2.heap.size, 2, none⟩) hQ).trans y2)
    have R3 := Lib.hid (fun w' (hw : KeptQ V.heap.size V w') => (hw.1.cell (p := ⟨w2.heap.size, 3, none⟩) hQ).trans y3)
    have R4 := Lib.hid (fun w' (hw : KeptQ V.heap.size V w') => (hw.1.cell (p := ⟨w2.heap.size, 4, none⟩) hQ).trans y4)
    have RM := Lib.hid (fun w' (hw : KeptQ V.heap.size V w') => MV.call hw.1)
    have RB := Lib.hid (fun w' (hw : KeptQ V.heap.size V w') => bgo BV hw.1)
    have hne : w.heap.size ≠ w2.heap.size := Nat.ne_of_lt hz2
    clear hV y0 y1 y2 y3 y4 hB3 BV MV r0 r1 r2 r3 r4 fr hc1 hf1 hc2 hf2 hb1 hb2
    rcases HVAL.out with ⟨ho, rfl, hv, hl, hrr, hxx, hff⟩ | ⟨ho, rfl, rfl, rfl, rfl, rfl, rfl⟩
    · clear HVAL
      cases v
      · clear hrr hxx
        have hres : Ending.returned (.tuple #[entV false false false false 0, .int .i64 6]) = .returned (.tuple #[walkV n m r p, .int .i64 (walkC n m r p)]) := by
          have e : walkC n m r p = 6 := by rw [HWC.out]; unfold leafC entC; simp [ho, ← hv]
          have e2 : walkV n m r p = entV false false false false 0 := by unfold walkV; rw [if_neg (by rw [e]; decide)]
          rw [e, e2]
        have HRES := Lib.hid hres
        clear hres ho hv hl
        go_wp2
        refine wp_region_keptQ V.heap.size V (by kernel_rfl) (by kernel_rfl) (KeptQ.refl (Nat.le_refl _)) ?_
        repeat (first
          | go_big_quiet_skip
          | (go_big_quiet_want; first
            | (refine quietQ_load_cell 4 _ rfl ⟨w2.heap.size, 0, none⟩ rfl _ R0.out _ Try.underlying4 rfl ?_; simp only [Act.put, List.setIfInBounds_toArray, List.set_cons_zero, List.set_cons_succ]; go_big_quiet_on)
            | (refine quietQ_load_cell 4 _ rfl ⟨w2.heap.size, 1, none⟩ rfl _ R1.out _ Try.underlying4 rfl ?_; simp only [Act.put, List.setIfInBounds_toArray, List.set_cons_zero, List.set_cons_succ]; go_big_quiet_on)
            | (refine quietQ_load_cell 3 _ rfl ⟨w2.heap.size, 4, none⟩ rfl _ R4.out _ Try.underlying3 rfl ?_; simp only [Act.put, List.setIfInBounds_toArray, List.set_cons_zero, List.set_cons_succ]; go_big_quiet_on)
            | (go_big_quiet_op; first
              | go_big_quiet_on
              | (refine ⟨_, fun _ _ => rfl, ?_⟩; go_big_quiet_on)
              | go_big_quiet_call ((intro hw; first
                | (go_at_call 28; refine (rframes_any _ b g n c m (RM.out _ hw)).mono ?_; rintro e w7 ⟨rfl, rfl⟩; exact ⟨rfl, hw⟩))))))
        refine wpQuiet_nil ?_
        intro w7 hw7
        have z0 := R0.out _ hw7
        have z1 := R1.out _ hw7
        have z2 := R2.out _ hw7
        have z3 := R3.out _ hw7
        have z4 := R4.out _ hw7
        obtain ⟨r0, r1, r2, r3, r4⟩ := RZ.out _ hw7
        have g0 := RF.out _ hw7 0
        have g1 := RF.out _ hw7 1
        have g2 := RF.out _ hw7 2
        have g3 := RF.out _ hw7 3
        have g4 := RF.out _ hw7 4
        have HB7 := RB.out _ hw7
        have hz7 : w.heap.size < w7.heap.size := Nat.lt_of_lt_of_le hzV hw7.1.size
        clear R0 R1 R2 R3 R4 RM RB RZ RF hw7
        go_wp2
        exact bodyPost_ret (v := .tuple #[entV false false false false 0, .int .i64 6]) (by simp [results, Try.results15, go_sem, r0, r1, r2, r3, r4, hne]) rfl ⟨HRES.out, by repeat (first | with_reducible exact HB7 | with_reducible refine Below.drew ?_ | with_reducible refine Below.setCell ?_ (by first | with_reducible exact Nat.le_refl _ | (simp; done) | (simp; omega)) _)⟩
      · by_cases hfn : x / 256 % 64 < n
        · have hfn' : f < (n : Int) := by omega
          cases l
          · clear hrr hxx
            have hres : Ending.returned (.tuple #[entV false false false false 0, .int .i64 5]) = .returned (.tuple #[walkV n m r p, .int .i64 (walkC n m r p)]) := by
              have e : walkC n m r p = 5 := by rw [HWC.out]; unfold leafC entC; simp [ho, ← hv, ← hl, hfn]
              have e2 : walkV n m r p = entV false false false false 0 := by unfold walkV; rw [if_neg (by rw [e]; decide)]
              rw [e, e2]
            have HRES := Lib.hid hres
            clear hres ho hv hl hfn
            go_wp2
            refine wp_region_keptQ V.heap.size V (by kernel_rfl) (by kernel_rfl) (KeptQ.refl (Nat.le_refl _)) ?_
            repeat (first
              | go_big_quiet_skip
              | (go_big_quiet_want; first
                | (refine quietQ_load_cell 4 _ rfl ⟨w2.heap.size, 0, none⟩ rfl _ R0.out _ Try.underlying4 rfl ?_; simp only [Act.put, List.setIfInBounds_toArray, List.set_cons_zero, List.set_cons_succ]; go_big_quiet_on)
                | (refine quietQ_load_cell 4 _ rfl ⟨w2.heap.size, 1, none⟩ rfl _ R1.out _ Try.underlying4 rfl ?_; simp only [Act.put, List.setIfInBounds_toArray, List.set_cons_zero, List.set_cons_succ]; go_big_quiet_on)
                | (refine quietQ_load_cell 3 _ rfl ⟨w2.heap.size, 4, none⟩ rfl _ R4.out _ Try.underlying3 rfl ?_; simp only [Act.put, List.setIfInBounds_toArray, List.set_cons_zero, List.set_cons_succ]; go_big_quiet_on)
                | (go_big_quiet_op; first
                  | go_big_quiet_on
                  | (refine ⟨_, fun _ _ => rfl, ?_⟩; go_big_quiet_on)
                  | go_big_quiet_call ((intro hw; first
                    | (go_at_call 28; refine (rframes_any _ b g n c m (RM.out _ hw)).mono ?_; rintro e w7 ⟨rfl, rfl⟩; exact ⟨rfl, hw⟩))))))
            refine wpQuiet_nil ?_
            intro w7 hw7
            have z0 := R0.out _ hw7
            have z1 := R1.out _ hw7
            have z2 := R2.out _ hw7
            have z3 := R3.out _ hw7
            have z4 := R4.out _ hw7
            obtain ⟨r0, r1, r2, r3, r4⟩ := RZ.out _ hw7
            have g0 := RF.out _ hw7 0
            have g1 := RF.out _ hw7 1
            have g2 := RF.out _ hw7 2
            have g3 := RF.out _ hw7 3
            have g4 := RF.out _ hw7 4
            have HB7 := RB.out _ hw7
            have hz7 : w.heap.size < w7.heap.size := Nat.lt_of_lt_of_le hzV hw7.1.size
            clear R0 R1 R2 R3 R4 RM RB RZ RF hw7
            go_wp2
            exact bodyPost_ret (v := .tuple #[entV false false false false 0, .int .i64 5]) (by simp [results, Try.results15, go_sem, r0, r1, r2, r3, r4, hne]) rfl ⟨HRES.out, by repeat (first | with_reducible exact HB7 | with_reducible refine Below.drew ?_ | with_reducible refine Below.setCell ?_ (by first | with_reducible exact Nat.le_refl _ | (simp; done) | (simp; omega)) _)⟩
          · have hres : Ending.returned (.tuple #[entV true true rr xx f, .int .i64 0]) = .returned (.tuple #[walkV n m r p, .int .i64 (walkC n m r p)]) := by
              have e : walkC n m r p = 0 := by rw [HWC.out]; unfold leafC entC; simp [ho, ← hv, ← hl, hfn]
              have e2 : walkV n m r p = entV true true rr xx f := by unfold walkV; rw [if_pos e, HWV.out]; unfold entW; rw [← hl, ← hrr, ← hxx, hff]
              rw [e, e2]
            have HRES := Lib.hid hres
            clear hres ho hv hl hrr hxx hfn hff
            go_wp2
            refine wp_region_keptQ V.heap.size V (by kernel_rfl) (by kernel_rfl) (KeptQ.refl (Nat.le_refl _)) ?_
            repeat (first
              | go_big_quiet_skip
              | (go_big_quiet_want; first
                | (refine quietQ_load_cell 4 _ rfl ⟨w2.heap.size, 0, none⟩ rfl _ R0.out _ Try.underlying4 rfl ?_; simp only [Act.put, List.setIfInBounds_toArray, List.set_cons_zero, List.set_cons_succ]; go_big_quiet_on)
                | (refine quietQ_load_cell 4 _ rfl ⟨w2.heap.size, 1, none⟩ rfl _ R1.out _ Try.underlying4 rfl ?_; simp only [Act.put, List.setIfInBounds_toArray, List.set_cons_zero, List.set_cons_succ]; go_big_quiet_on)
                | (refine quietQ_load_cell 3 _ rfl ⟨w2.heap.size, 4, none⟩ rfl _ R4.out _ Try.underlying3 rfl ?_; simp only [Act.put, List.setIfInBounds_toArray, List.set_cons_zero, List.set_cons_succ]; go_big_quiet_on)
                | (go_big_quiet_op; first
                  | go_big_quiet_on
                  | (refine ⟨_, fun _ _ => rfl, ?_⟩; go_big_quiet_on)
                  | go_big_quiet_call ((intro hw; first
                    | (go_at_call 28; refine (rframes_any _ b g n c m (RM.out _ hw)).mono ?_; rintro e w7 ⟨rfl, rfl⟩; exact ⟨rfl, hw⟩))))))
            refine wpQuiet_nil ?_
            intro w7 hw7
            have z0 := R0.out _ hw7
            have z1 := R1.out _ hw7
            have z2 := R2.out _ hw7
            have z3 := R3.out _ hw7
            have z4 := R4.out _ hw7
            obtain ⟨r0, r1, r2, r3, r4⟩ := RZ.out _ hw7
            have g0 := RF.out _ hw7 0
            have g1 := RF.out _ hw7 1
            have g2 := RF.out _ hw7 2
            have g3 := RF.out _ hw7 3
            have g4 := RF.out _ hw7 4
            have HB7 := RB.out _ hw7
            have hz7 : w.heap.size < w7.heap.size := Nat.lt_of_lt_of_le hzV hw7.1.size
            clear R0 R1 R2 R3 R4 RM RB RZ RF hw7
            go_wp2
            exact bodyPost_ret (v := .tuple #[entV true true rr xx f, .int .i64 0]) (by simp [results, Try.results15, go_sem, r0, r1, r2, r3, r4, hne]) rfl ⟨HRES.out, by repeat (first | with_reducible exact HB7 | with_reducible refine Below.drew ?_ | with_reducible refine Below.setCell ?_ (by first | with_reducible exact Nat.le_refl _ | (simp; done) | (simp; omega)) _)⟩
        · have hfn' : (n : Int) ≤ f := by omega
          cases l
          all_goals
            clear hrr hxx
            have hres : Ending.returned (.tuple #[entV false false false false 0, .int .i64 5]) = .returned (.tuple #[walkV n m r p, .int .i64 (walkC n m r p)]) := by
              have e : walkC n m r p = 5 := by rw [HWC.out]; unfold leafC entC; simp [ho, ← hv, ← hl, hfn]
              have e2 : walkV n m r p = entV false false false false 0 := by unfold walkV; rw [if_neg (by rw [e]; decide)]
              rw [e, e2]
            have HRES := Lib.hid hres
            clear hres ho hv hl hfn
            go_wp2
            refine wp_region_keptQ V.heap.size V (by kernel_rfl) (by kernel_rfl) (KeptQ.refl (Nat.le_refl _)) ?_
            repeat (first
              | go_big_quiet_skip
              | (go_big_quiet_want; first
                | (refine quietQ_load_cell 4 _ rfl ⟨w2.heap.size, 0, none⟩ rfl _ R0.out _ Try.underlying4 rfl ?_; simp only [Act.put, List.setIfInBounds_toArray, List.set_cons_zero, List.set_cons_succ]; go_big_quiet_on)
                | (refine quietQ_load_cell 4 _ rfl ⟨w2.heap.size, 1, none⟩ rfl _ R1.out _ Try.underlying4 rfl ?_; simp only [Act.put, List.setIfInBounds_toArray, List.set_cons_zero, List.set_cons_succ]; go_big_quiet_on)
                | (refine quietQ_load_cell 3 _ rfl ⟨w2.heap.size, 4, none⟩ rfl _ R4.out _ Try.underlying3 rfl ?_; simp only [Act.put, List.setIfInBounds_toArray, List.set_cons_zero, List.set_cons_succ]; go_big_quiet_on)
                | (go_big_quiet_op; first
                  | go_big_quiet_on
                  | (refine ⟨_, fun _ _ => rfl, ?_⟩; go_big_quiet_on)
                  | go_big_quiet_call ((intro hw; first
                    | (go_at_call 28; refine (rframes_any _ b g n c m (RM.out _ hw)).mono ?_; rintro e w7 ⟨rfl, rfl⟩; exact ⟨rfl, hw⟩))))))
            refine wpQuiet_nil ?_
            intro w7 hw7
            have z0 := R0.out _ hw7
            have z1 := R1.out _ hw7
            have z2 := R2.out _ hw7
            have z3 := R3.out _ hw7
            have z4 := R4.out _ hw7
            obtain ⟨r0, r1, r2, r3, r4⟩ := RZ.out _ hw7
            have g0 := RF.out _ hw7 0
            have g1 := RF.out _ hw7 1
            have g2 := RF.out _ hw7 2
            have g3 := RF.out _ hw7 3
            have g4 := RF.out _ hw7 4
            have HB7 := RB.out _ hw7
            have hz7 : w.heap.size < w7.heap.size := Nat.lt_of_lt_of_le hzV hw7.1.size
            clear R0 R1 R2 R3 R4 RM RB RZ RF hw7
            go_wp2
            exact bodyPost_ret (v := .tuple #[entV false false false false 0, .int .i64 5]) (by simp [results, Try.results15, go_sem, r0, r1, r2, r3, r4, hne]) rfl ⟨HRES.out, by repeat (first | with_reducible exact HB7 | with_reducible refine Below.drew ?_ | with_reducible refine Below.setCell ?_ (by first | with_reducible exact Nat.le_refl _ | (simp; done) | (simp; omega)) _)⟩
    · clear HVAL
      have hres : Ending.returned (.tuple #[entV false false false false 0, .int .i64 5]) = .returned (.tuple #[walkV n m r p, .int .i64 (walkC n m r p)]) := by
        have e : walkC n m r p = 5 := by rw [HWC.out]; unfold leafC entC; simp [ho]
        have e2 : walkV n m r p = entV false false false false 0 := by unfold walkV; rw [if_neg (by rw [e]; decide)]
        rw [e, e2]
      have HRES := Lib.hid hres
      clear hres ho
      go_wp2
      refine wp_region_keptQ V.heap.size V (by kernel_rfl) (by kernel_rfl) (KeptQ.refl (Nat.le_refl _)) ?_
      repeat (first
        | go_big_quiet_skip
        | (go_big_quiet_want; first
          | (refine quietQ_load_cell 4 _ rfl ⟨w2.heap.size, 0, none⟩ rfl _ R0.out _ Try.underlying4 rfl ?_; simp only [Act.put, List.setIfInBounds_toArray, List.set_cons_zero, List.set_cons_succ]; go_big_quiet_on)
          | (refine quietQ_load_cell 4 _ rfl ⟨w2.heap.size, 1, none⟩ rfl _ R1.out _ Try.underlying4 rfl ?_; simp only [Act.put, List.setIfInBounds_toArray, List.set_cons_zero, List.set_cons_succ]; go_big_quiet_on)
          | (refine quietQ_load_cell 3 _ rfl ⟨w2.heap.size, 4, none⟩ rfl _ R4.out _ Try.underlying3 rfl ?_; simp only [Act.put, List.setIfInBounds_toArray, List.set_cons_zero, List.set_cons_succ]; go_big_quiet_on)
          | (go_big_quiet_op; first
            | go_big_quiet_on
            | (refine ⟨_, fun _ _ => rfl, ?_⟩; go_big_quiet_on)
            | go_big_quiet_call ((intro hw; first
              | (go_at_call 28; refine (rframes_any _ b g n c m (RM.out _ hw)).mono ?_; rintro e w7 ⟨rfl, rfl⟩; exact ⟨rfl, hw⟩))))))
      refine wpQuiet_nil ?_
      intro w7 hw7
      have z0 := R0.out _ hw7
      have z1 := R1.out _ hw7
      have z2 := R2.out _ hw7
      have z3 := R3.out _ hw7
      have z4 := R4.out _ hw7
      obtain ⟨r0, r1, r2, r3, r4⟩ := RZ.out _ hw7
      have g0 := RF.out _ hw7 0
      have g1 := RF.out _ hw7 1
      have g2 := RF.out _ hw7 2
      have g3 := RF.out _ hw7 3
      have g4 := RF.out _ hw7 4
      have HB7 := RB.out _ hw7
      have hz7 : w.heap.size < w7.heap.size := Nat.lt_of_lt_of_le hzV hw7.1.size
      clear R0 R1 R2 R3 R4 RM RB RZ RF hw7
      go_wp2
      exact bodyPost_ret (v := .tuple #[entV false false false false 0, .int .i64 5]) (by simp [results, Try.results15, go_sem, r0, r1, r2, r3, r4, hne]) rfl ⟨HRES.out, by repeat (first | with_reducible exact HB7 | with_reducible refine Below.drew ?_ | with_reducible refine Below.setCell ?_ (by first | with_reducible exact Nat.le_refl _ | (simp; done) | (simp; omega)) _)⟩
  · have hz : (c0 == 0) = false := beq_eq_false_iff_ne.2 h0
    have hres : Ending.returned (.tuple #[entV false false false false 0, .int .i64 c0]) = .returned (.tuple #[walkV n m r p, .int .i64 (walkC n m r p)]) := by
      have e : walkC n m r p = c0 := by unfold walkC; rw [hac]; simp only; rw [if_neg h0]
      have e2 : walkV n m r p = entV false false false false 0 := by unfold walkV; rw [if_neg (by rw [e]; exact h0)]
      rw [e, e2]
    have HRES := Lib.hid hres
    clear hres h0 hac hM hhd hlb hlg
    go_enter Try.func15, Try.ntmps15
    go_wp2_with (first
      | (go_at_call 10; refine (rat_gen _ b g n c m r p 3 (HM.out.call (bal (Below.refl _ _) _))).mono ?_; rw [HAC.out]; rintro e w1 ⟨rfl, hb1⟩; obtain ⟨hc1, hf1⟩ := bcell hb1; have hz1 : w.heap.size < w1.heap.size := (by have := hb1.size; simp at this; omega)))
    have r0 : w1.cell? ⟨w.heap.size, 0, none⟩ = some (.bool false) := (hc1 _ _ (by simp)).trans (by rw [cellE]; rfl)
    have r1 : w1.cell? ⟨w.heap.size, 1, none⟩ = some (.bool false) := (hc1 _ _ (by simp)).trans (by rw [cellE]; rfl)
    have r2 : w1.cell? ⟨w.heap.size, 2, none⟩ = some (.bool false) := (hc1 _ _ (by simp)).trans (by rw [cellE]; rfl)
    have r3 : w1.cell? ⟨w.heap.size, 3, none⟩ = some (.bool false) := (hc1 _ _ (by simp)).trans (by rw [cellE]; rfl)
    have r4 : w1.cell? ⟨w.heap.size, 4, none⟩ = some (.int .i64 0) := (hc1 _ _ (by simp)).trans (by rw [cellE]; rfl)
    exact bodyPost_ret (v := .tuple #[entV false false false false 0, .int .i64 c0]) (by simp [results, Try.results15, go_sem, r0, r1, r2, r3, r4, hz1, Nat.ne_of_lt hz1]) rfl ⟨HRES.out, by repeat (first | with_reducible exact Below.refl _ _ | with_reducible refine Below.drew ?_ | with_reducible refine Below.setCell ?_ (by first | with_reducible exact Nat.le_refl _ | (simp; done) | (simp; omega)) _ | with_reducible refine bal ?_ _ | with_reducible refine bgo ?_ (by assumption))⟩
end Go.Proofs.Yticoddjidibecaa
