/- AccessFaults. -/
import Derived.Test.YtgfidbjhihignaaAc9
namespace Go.Proofs.Ytgfidbjhihignaa
set_option linter.unusedVariables false
set_option linter.unusedSimpArgs false
open Go.ChangeShapes Go.WideShapes Go.ChangeAt Go.RowKit Go.Shelf

theorem fV_eq (kd va : Int) (wr : Bool) : fV kd va wr = faultV kd (if kd = 0 then 0 else va) (if kd = 0 then false else wr) := by
  unfold fV
  by_cases h : kd = 0
  · rw [if_pos h, if_pos h, if_pos h, h]
  · rw [if_neg h, if_neg h, if_neg h]
theorem acc_loadF (W w : World) (b g : Nat) (T : Nat → Nat) (mb mg mc : Nat) (S : Nat → TS) (M : Nat → Int) (k va : Int) (h : Rdy W w b g T mb mg mc S M) (h0 : 0 ≤ va) (h1 : va ≤ 18446744073709551615) :
    Calls Try.prog 16 #[.pointer (some ⟨b, 0, none⟩), .pointer (some ⟨mb, 0, none⟩), .int .i64 k, .int .u64 va] w fun e w' => ∃ kd x fv fw, e = .returned (.tuple #[.int .u64 x, faultV kd fv fw]) ∧ (kd = 0 → fv = 0 ∧ fw = false) ∧ (¬ kd = 0 → fv = va ∧ fw = false) ∧ AccC W w w' b g T mb mg mc M va false kd M :=
  (acc_load W w b g T mb mg mc S M k va h h0 h1).mono fun e w' ⟨kd, x, he, hc⟩ => ⟨kd, x, (if kd = 0 then 0 else va), (if kd = 0 then false else false), he.trans (by rw [fV_eq]), fun z => ⟨if_pos z, if_pos z⟩, fun z => ⟨if_neg z, if_neg z⟩, hc⟩
theorem acc_storeF (W w : World) (b g : Nat) (T : Nat → Nat) (mb mg mc : Nat) (S : Nat → TS) (M : Nat → Int) (k va v : Int) (h : Rdy W w b g T mb mg mc S M) (h0 : 0 ≤ va) (h1 : va ≤ 18446744073709551615) (hv : WordI v) :
    Calls Try.prog 14 #[.pointer (some ⟨b, 0, none⟩), .pointer (some ⟨mb, 0, none⟩), .int .i64 k, .int .u64 va, .int .u64 v] w fun e w' => ∃ kd M' fv fw, e = .returned (faultV kd fv fw) ∧ (kd = 0 → fv = 0 ∧ fw = false) ∧ (¬ kd = 0 → fv = va ∧ fw = true) ∧ AccC W w w' b g T mb mg mc M va true kd M' :=
  (acc_store W w b g T mb mg mc S M k va v h h0 h1 hv).mono fun e w' ⟨kd, x, he, hc⟩ => ⟨kd, x, (if kd = 0 then 0 else va), (if kd = 0 then false else true), he.trans (by rw [fV_eq]), fun z => ⟨if_pos z, if_pos z⟩, fun z => ⟨if_neg z, if_neg z⟩, hc⟩
theorem cntD_le (M M' : Nat → Int) (k : Nat) : cntD M M' k ≤ k := by
  induction k with
  | zero => exact Nat.le_refl _
  | succ k ih => show cntD M M' k + _ ≤ _; split <;> omega
theorem cntD_ne {M M' : Nat → Int} {k : Nat} {x y : Int} (hx : M k = x) (hy : M' k = y) (h : x ≠ y) : cntD M M' (k + 1) = cntD M M' k + 1 := by
  show cntD M M' k + (if M k = M' k then 0 else 1) = _
  rw [hx, hy, if_neg h]
theorem cntD_eq {M M' : Nat → Int} {k : Nat} {x y : Int} (hx : M k = x) (hy : M' k = y) (h : x = y) : cntD M M' (k + 1) = cntD M M' k := by
  show cntD M M' k + (if M k = M' k then 0 else 1) = _
  rw [hx, hy, if_pos h, Nat.add_zero]
theorem flt_set {w : World} {q : Nat} {a b c : Value} (x y z : Value) (h : FltAt w q a b c) : FltAt (((w.setCell ⟨q, 0, none⟩ x).setCell ⟨q, 1, none⟩ y).setCell ⟨q, 2, none⟩ z) q x y z ∧ BlkOnly q w (((w.setCell ⟨q, 0, none⟩ x).setCell ⟨q, 1, none⟩ y).setCell ⟨q, 2, none⟩ z) := by
  obtain ⟨h0, h1, h2, hf, hl⟩ := h
  refine ⟨⟨?_, ?_, ?_, ?_, ?_⟩, (((BlkOnly.refl _ _).set _ _).set _ _).set _ _⟩
  all_goals simp [go_sem, h0, h1, h2, hf, hl]
set_option maxHeartbeats 400000
set_option maxRecDepth 100000 in
set_option maxHeartbeats 2000000 in
theorem faults_load (a0 : Int) (a1 : Int) (w1 : (Lit.int .u64 a1).wf = true) (a2 : Int) (w2 : (Lit.int .u64 a2).wf = true) (W : World) :
    Calls Try.prog 4 #[.int .i64 a0, .int .u64 a1, .int .u64 a2, .bool false] W fun e w' => e = .returned (.bool true) ∧ Below W.heap.size W w' := by
  have hu := u64_of8 w1
  have hv : WordI a2 := ⟨(u64_of8 w2).1, by have := (u64_of8 w2).2; omega⟩
  clear w1 w2
  go_enter Try.func4, Try.ntmps4
  go_wp2_with (fail)
  refine (ready_ok _).mono ?_
  rintro e w1 ⟨b, g, T, mb, mg, mc, vb, wb, rfl, hr1⟩
  have HR1 := Lib.hid hr1
  have lb1 := hr1.co.lb
  have lg1 := hr1.co.lg
  have lmb1 := hr1.me.lb
  have lmg1 := hr1.me.lg
  have lW1 := hr1.be.size
  have HT1 : Hid (∀ i, i < 2 → T i < w1.heap.size) := Lib.hid (fun i hi => (hr1.co.tlb i hi).lt)
  clear hr1
  go_wp2_with (fail)
  refine (copy_any w1 mb mg 8 mc (mR 9) HR1.out.me).mono ?_
  rintro e w2 ⟨cb, cg, cc, rfl, hcm, hcb, hcg, hb2⟩
  have HCM := Lib.hid hcm
  have HRB := Lib.hid (HR1.out.call hb2)
  have lcb := hcm.lb
  have lcg := hcm.lg
  have z2 := hb2.size
  clear hcm hb2 HR1
  go_wp2_with (first
    | (go_at_call 16; refine (acc_loadF W _ b g T mb mg mc _ _ a0 a1 (HRB.out.call (bal (Below.refl _ _) _)) hu.1 hu.2).mono ?_; rintro e w3 ⟨kd, x, fv, fw, rfl, hf0, hf1, hacc⟩; have HF0 := Lib.hid hf0; have HF1 := Lib.hid hf1; have HACC := Lib.hid hacc; obtain ⟨r0, r1, r2, rf, rl⟩ := (FltAt.new w2 40 (.int .i64 0) (.int .u64 0) (.bool false)).keep hacc.2.1 (by simp) (fun i hi => by have := HT1.out i hi; omega) (by omega); clear hacc hf0 hf1))
  obtain ⟨S', hrd⟩ := HACC.out.1
  have hflt : FltAt w3 w2.heap.size (.int .i64 0) (.int .u64 0) (.bool false) := ⟨r0, r1, r2, rf, rl⟩
  obtain ⟨hflt, hblk⟩ := flt_set (.int .i64 kd) (.int .u64 fv) (.bool fw) hflt
  have hmc : MemAt w3 cb cg 8 cc (mR 9) := (HCM.out.call (bal (Below.refl _ _) _)).of_blocks HACC.out.2.1.1 (HACC.out.2.1.2 cb (by simp; omega) (fun i hi => by have := HT1.out i hi; omega) (by omega)) (HACC.out.2.1.2 cg (by simp; omega) (fun i hi => by have := HT1.out i hi; omega) (by omega))
  have HC4 := Lib.hid (hblk.mem hmc (by omega) (by omega))
  have HM4 := Lib.hid (hblk.mem hrd.me (by omega) (by omega))
  have HB4 := hrd.be.trans (hblk.below (by omega) rl)
  have HF4 := Lib.hid hflt
  clear hflt hmc hrd r0 r1 r2 rf hblk
  generalize ((w3.setCell ⟨w2.heap.size, 0, none⟩ (.int .i64 kd)).setCell ⟨w2.heap.size, 1, none⟩ (.int .u64 fv)).setCell ⟨w2.heap.size, 2, none⟩ (.bool fw) = w4 at *
  go_loopw [15, 16] (fun n i wr => ∃ k : Nat, k ≤ 64 ∧ n = .int .i64 (cntD (mR 9) (mR 9) k : Nat) ∧ i = .int .u64 (8 * (k : Int)) ∧ Hid (MemAt wr cb cg 8 cc (mR 9)) ∧ Hid (MemAt wr mb mg 8 mc (mR 9)) ∧ Hid (FltAt wr w2.heap.size (.int .i64 kd) (.int .u64 fv) (.bool fw)) ∧ Below W.heap.size W wr) (fun _ i _ => 512 - (intOf i).toNat)
  case atStart => exact ⟨0, by omega, rfl, rfl, HC4, HM4, HF4, HB4⟩
  case round =>
    clear HC4 HM4 HF4 HB4
    obtain ⟨k, hk, rfl, rfl, HC, HM, HF, hB⟩ := hrel
    by_cases hlt : k < 64
    · have hc64 : cntD (mR 9) (mR 9) k ≤ k := cntD_le _ _ _
      have hcs : cntD (mR 9) (mR 9) (k + 1) = cntD (mR 9) (mR 9) k + (if mR 9 k = (mR 9) k then 0 else 1) := rfl
      have HCS := Lib.hid hcs
      clear hcs
      obtain ⟨x, hx⟩ : ∃ x, mR 9 k = x := ⟨_, rfl⟩
      obtain ⟨y, hy⟩ : ∃ y, (mR 9) k = y := ⟨_, rfl⟩
      obtain ⟨cn, hcn⟩ : ∃ n, cntD (mR 9) (mR 9) k = n := ⟨_, rfl⟩
      have HX := Lib.hid hx
      have HY := Lib.hid hy
      have HCN := Lib.hid hcn
      rw [hcn] at hc64 ⊢
      clear hx hy hcn
      go_wp2_with (first
        | (go_at_call 20; with_reducible refine (load_at wr cb cg 8 cc _ _ k HC.out rfl (by omega)).mono ?_; rw [HX.out]; rintro e w5 ⟨rfl, rfl⟩)
        | (go_at_call 20; with_reducible refine (load_at wr mb mg 8 mc _ _ k HM.out rfl (by omega)).mono ?_; rw [HY.out]; rintro e w6 ⟨rfl, rfl⟩))
      all_goals go_roundw
      all_goals first
        | exact ⟨k + 1, by omega, by rw [cntD_ne HX.out HY.out (bne_iff_ne.1 (by assumption)), HCN.out]; go_num, by go_num, HC, HM, HF, hB⟩
        | exact ⟨k + 1, by omega, by rw [cntD_eq HX.out HY.out (by have h := ‹(x != y) = false›; simpa using h), HCN.out], by go_num, HC, HM, HF, hB⟩
        | (simp [intOf]; omega)
    · obtain rfl : k = 64 := by omega
      obtain ⟨r0, r1, r2, rf, rl⟩ := HF.out
      have hcn := HACC.out.cnt
      have hva := HACC.out.2.2.1
      by_cases hk0 : kd = 0
      · obtain ⟨rfl, rfl⟩ := HF0.out hk0
        obtain ⟨hv1, hv2⟩ := hva hk0
        subst hk0
        have hcz : cntD (mR 9) (mR 9) 64 = 0 := cntD_same _ _
        have HV2 := Lib.hid hv2
        clear hcn hva HACC HF0 HF1 hv2
        skip
        all_goals
          rw [hcz]
          go_wp2_with (go_at_call 7; refine (awake8 _).mono ?_; rintro e w9 ⟨rfl, hb9⟩)
          go_ret
          exact ⟨rfl, bgo hB hb9⟩
      · obtain ⟨rfl, rfl⟩ := HF1.out hk0
        have hcz : cntD (mR 9) (mR 9) 64 = 0 := hcn.resolve_right (fun h => hk0 h.1)
        clear hcn hva HACC HF0 HF1
        rw [hcz]
        go_wp2_with (go_at_call 7; refine (awake8 _).mono ?_; rintro e w9 ⟨rfl, hb9⟩)
        go_ret
        exact ⟨rfl, bgo hB hb9⟩
set_option maxRecDepth 100000 in
set_option maxHeartbeats 2000000 in
theorem faults_store (a0 : Int) (a1 : Int) (w1 : (Lit.int .u64 a1).wf = true) (a2 : Int) (w2 : (Lit.int .u64 a2).wf = true) (W : World) :
    Calls Try.prog 4 #[.int .i64 a0, .int .u64 a1, .int .u64 a2, .bool true] W fun e w' => e = .returned (.bool true) ∧ Below W.heap.size W w' := by
  have hu := u64_of8 w1
  have hv : WordI a2 := ⟨(u64_of8 w2).1, by have := (u64_of8 w2).2; omega⟩
  clear w1 w2
  go_enter Try.func4, Try.ntmps4
  go_wp2_with (fail)
  refine (ready_ok _).mono ?_
  rintro e w1 ⟨b, g, T, mb, mg, mc, vb, wb, rfl, hr1⟩
  have HR1 := Lib.hid hr1
  have lb1 := hr1.co.lb
  have lg1 := hr1.co.lg
  have lmb1 := hr1.me.lb
  have lmg1 := hr1.me.lg
  have lW1 := hr1.be.size
  have HT1 : Hid (∀ i, i < 2 → T i < w1.heap.size) := Lib.hid (fun i hi => (hr1.co.tlb i hi).lt)
  clear hr1
  go_wp2_with (fail)
  refine (copy_any w1 mb mg 8 mc (mR 9) HR1.out.me).mono ?_
  rintro e w2 ⟨cb, cg, cc, rfl, hcm, hcb, hcg, hb2⟩
  have HCM := Lib.hid hcm
  have HRB := Lib.hid (HR1.out.call hb2)
  have lcb := hcm.lb
  have lcg := hcm.lg
  have z2 := hb2.size
  clear hcm hb2 HR1
  go_wp2_with (first
    | (go_at_call 14; refine (acc_storeF W _ b g T mb mg mc _ _ a0 a1 a2 (HRB.out.call (bal (Below.refl _ _) _)) hu.1 hu.2 hv).mono ?_; rintro e w3 ⟨kd, M', fv, fw, rfl, hf0, hf1, hacc⟩; have HF0 := Lib.hid hf0; have HF1 := Lib.hid hf1; have HACC := Lib.hid hacc; obtain ⟨r0, r1, r2, rf, rl⟩ := (FltAt.new w2 40 (.int .i64 0) (.int .u64 0) (.bool false)).keep hacc.2.1 (by simp) (fun i hi => by have := HT1.out i hi; omega) (by omega); clear hacc hf0 hf1))
  obtain ⟨S', hrd⟩ := HACC.out.1
  have hflt : FltAt w3 w2.heap.size (.int .i64 0) (.int .u64 0) (.bool false) := ⟨r0, r1, r2, rf, rl⟩
  obtain ⟨hflt, hblk⟩ := flt_set (.int .i64 kd) (.int .u64 fv) (.bool fw) hflt
  have hmc : MemAt w3 cb cg 8 cc (mR 9) := (HCM.out.call (bal (Below.refl _ _) _)).of_blocks HACC.out.2.1.1 (HACC.out.2.1.2 cb (by simp; omega) (fun i hi => by have := HT1.out i hi; omega) (by omega)) (HACC.out.2.1.2 cg (by simp; omega) (fun i hi => by have := HT1.out i hi; omega) (by omega))
  have HC4 := Lib.hid (hblk.mem hmc (by omega) (by omega))
  have HM4 := Lib.hid (hblk.mem hrd.me (by omega) (by omega))
  have HB4 := hrd.be.trans (hblk.below (by omega) rl)
  have HF4 := Lib.hid hflt
  clear hflt hmc hrd r0 r1 r2 rf hblk
  generalize ((w3.setCell ⟨w2.heap.size, 0, none⟩ (.int .i64 kd)).setCell ⟨w2.heap.size, 1, none⟩ (.int .u64 fv)).setCell ⟨w2.heap.size, 2, none⟩ (.bool fw) = w4 at *
  go_loopw [15, 16] (fun n i wr => ∃ k : Nat, k ≤ 64 ∧ n = .int .i64 (cntD (mR 9) M' k : Nat) ∧ i = .int .u64 (8 * (k : Int)) ∧ Hid (MemAt wr cb cg 8 cc (mR 9)) ∧ Hid (MemAt wr mb mg 8 mc M') ∧ Hid (FltAt wr w2.heap.size (.int .i64 kd) (.int .u64 fv) (.bool fw)) ∧ Below W.heap.size W wr) (fun _ i _ => 512 - (intOf i).toNat)
  case atStart => exact ⟨0, by omega, rfl, rfl, HC4, HM4, HF4, HB4⟩
  case round =>
    clear HC4 HM4 HF4 HB4
    obtain ⟨k, hk, rfl, rfl, HC, HM, HF, hB⟩ := hrel
    by_cases hlt : k < 64
    · have hc64 : cntD (mR 9) M' k ≤ k := cntD_le _ _ _
      have hcs : cntD (mR 9) M' (k + 1) = cntD (mR 9) M' k + (if mR 9 k = M' k then 0 else 1) := rfl
      have HCS := Lib.hid hcs
      clear hcs
      obtain ⟨x, hx⟩ : ∃ x, mR 9 k = x := ⟨_, rfl⟩
      obtain ⟨y, hy⟩ : ∃ y, M' k = y := ⟨_, rfl⟩
      obtain ⟨cn, hcn⟩ : ∃ n, cntD (mR 9) M' k = n := ⟨_, rfl⟩
      have HX := Lib.hid hx
      have HY := Lib.hid hy
      have HCN := Lib.hid hcn
      rw [hcn] at hc64 ⊢
      clear hx hy hcn
      go_wp2_with (first
        | (go_at_call 20; with_reducible refine (load_at wr cb cg 8 cc _ _ k HC.out rfl (by omega)).mono ?_; rw [HX.out]; rintro e w5 ⟨rfl, rfl⟩)
        | (go_at_call 20; with_reducible refine (load_at wr mb mg 8 mc _ _ k HM.out rfl (by omega)).mono ?_; rw [HY.out]; rintro e w6 ⟨rfl, rfl⟩))
      all_goals go_roundw
      all_goals first
        | exact ⟨k + 1, by omega, by rw [cntD_ne HX.out HY.out (bne_iff_ne.1 (by assumption)), HCN.out]; go_num, by go_num, HC, HM, HF, hB⟩
        | exact ⟨k + 1, by omega, by rw [cntD_eq HX.out HY.out (by have h := ‹(x != y) = false›; simpa using h), HCN.out], by go_num, HC, HM, HF, hB⟩
        | (simp [intOf]; omega)
    · obtain rfl : k = 64 := by omega
      obtain ⟨r0, r1, r2, rf, rl⟩ := HF.out
      have hcn := HACC.out.cnt
      have hva := HACC.out.2.2.1
      by_cases hk0 : kd = 0
      · obtain ⟨rfl, rfl⟩ := HF0.out hk0
        obtain ⟨hv1, hv2⟩ := hva hk0
        subst hk0
        have hcz : cntD (mR 9) M' 64 = 0 ∨ cntD (mR 9) M' 64 = 1 := hcn.imp id (fun h => h.2.2)
        have HV2 := Lib.hid hv2
        clear hcn hva HACC HF0 HF1 hv2
        rcases hcz with hcz | hcz
        all_goals
          rw [hcz]
          go_wp2_with (go_at_call 7; refine (awake8 _).mono ?_; rintro e w9 ⟨rfl, hb9⟩)
          go_ret
          exact ⟨rfl, bgo hB hb9⟩
      · obtain ⟨rfl, rfl⟩ := HF1.out hk0
        have hcz : cntD (mR 9) M' 64 = 0 := hcn.resolve_right (fun h => hk0 h.1)
        clear hcn hva HACC HF0 HF1
        rw [hcz]
        go_wp2_with (go_at_call 7; refine (awake8 _).mono ?_; rintro e w9 ⟨rfl, hb9⟩)
        go_ret
        exact ⟨rfl, bgo hB hb9⟩
set_option maxRecDepth 100000 in
theorem walk_accessFaults (a0 : Int) (w0 : (Lit.int .i64 a0).wf = true) (a1 : Int) (w1 : (Lit.int .u64 a1).wf = true) (a2 : Int) (w2 : (Lit.int .u64 a2).wf = true) (a3 : Bool) (W : World) :
    Calls Try.prog 4 #[.int .i64 a0, .int .u64 a1, .int .u64 a2, .bool a3] W fun e w' => e = .returned (.bool true) ∧ Below W.heap.size W w' := by
  cases a3
  · exact faults_load a0 a1 w1 a2 w2 W
  · exact faults_store a0 a1 w1 a2 w2 W
end Go.Proofs.Ytgfidbjhihignaa
