/- AccessBack. -/
import Derived.Test.YtgfidbjhihignaaAcF
import Derived.Test.YtgfidbjhihignaaLowL
namespace Go.Proofs.Ytgfidbjhihignaa
set_option linter.unusedVariables false
set_option linter.unusedSimpArgs false
open Go.ChangeShapes Go.WideShapes Go.ChangeAt Go.RowKit Go.Shelf

def vaB (p q : Nat) : Int := 64 * (p : Int) + 8 * (q : Int)
def bA (va : Int) := zR (fun _ => S0) (mR 9) 0 va
def bM (va v : Int) : Nat → Int := if accK (bA va).1 true = 0 then updM (mR 9) (accI (bA va).1 va) v else mR 9
def bS1 (va : Int) : Nat → TS := setT (fun _ => S0) 0 (bA va).2
def bB (va v : Int) := zR (bS1 va) (bM va v) 0 va
def bS2 (va v : Int) : Nat → TS := setT (bS1 va) 0 (bB va v).2
def bC (va v : Int) := zR (bS2 va v) (bM va v) 1 va
def kAB : Nat → Int
  | 0 => 5 | 1 => 0 | 2 => 0 | 3 => 5 | 4 => 0 | _ => 4
theorem bkA : ∀ p < 8, ∀ q < 8, accK (bA (vaB p q)).1 true = kAB p := by decide +kernel
theorem bk1 (q : Nat) (hq : q < 8) (v : Int) : accK (bB (vaB 1 q) v).1 false = 5 := by
  obtain rfl | rfl | rfl | rfl | rfl | rfl | rfl | rfl : q = 0 ∨ q = 1 ∨ q = 2 ∨ q = 3 ∨ q = 4 ∨ q = 5 ∨ q = 6 ∨ q = 7 := by omega
  all_goals kernel_rfl
theorem bk2 (q : Nat) (hq : q < 8) (v : Int) : accK (bB (vaB 2 q) v).1 false = 0 ∧ bM (vaB 2 q) v (accI (bB (vaB 2 q) v).1 (vaB 2 q)) = v ∧ accK (bC (vaB 2 q) v).1 false = 0 ∧ bM (vaB 2 q) v (accI (bC (vaB 2 q) v).1 (vaB 2 q)) = v := by
  obtain rfl | rfl | rfl | rfl | rfl | rfl | rfl | rfl : q = 0 ∨ q = 1 ∨ q = 2 ∨ q = 3 ∨ q = 4 ∨ q = 5 ∨ q = 6 ∨ q = 7 := by omega
  all_goals exact ⟨by kernel_rfl, by kernel_rfl, by kernel_rfl, by kernel_rfl⟩
theorem bk4 (q : Nat) (hq : q < 8) (v : Int) : accK (bB (vaB 4 q) v).1 false = 0 ∧ bM (vaB 4 q) v (accI (bB (vaB 4 q) v).1 (vaB 4 q)) = v ∧ accK (bC (vaB 4 q) v).1 false = 0 ∧ bM (vaB 4 q) v (accI (bC (vaB 4 q) v).1 (vaB 4 q)) = v := by
  obtain rfl | rfl | rfl | rfl | rfl | rfl | rfl | rfl : q = 0 ∨ q = 1 ∨ q = 2 ∨ q = 3 ∨ q = 4 ∨ q = 5 ∨ q = 6 ∨ q = 7 := by omega
  all_goals exact ⟨by kernel_rfl, by kernel_rfl, by kernel_rfl, by kernel_rfl⟩
theorem bk_store (W w : World) (b g : Nat) (T : Nat → Nat) (mb mg mc : Nat) (va v : Int) (h : Rdy W w b g T mb mg mc (fun _ => S0) (mR 9)) (h0 : 0 ≤ va) (h1 : va < 32768) (ha : va % 8 = 0) (hv : WordI v) :
    Calls Try.prog 14 #[.pointer (some ⟨b, 0, none⟩), .pointer (some ⟨mb, 0, none⟩), .int .i64 0, .int .u64 va, .int .u64 v] w fun e w' => e = .returned (fV (accK (bA va).1 true) va true) ∧ Rdy W w' b g T mb mg mc (bS1 va) (bM va v) ∧ KeepO w.heap.size T mg w w' :=
  store_rdy W w b g T mb mg mc 0 _ _ va v h (by decide) h0 h1 ha hv
theorem bk_load0 (W w : World) (b g : Nat) (T : Nat → Nat) (mb mg mc : Nat) (va v : Int) (h : Rdy W w b g T mb mg mc (bS1 va) (bM va v)) (h0 : 0 ≤ va) (h1 : va < 32768) (ha : va % 8 = 0) :
    Calls Try.prog 16 #[.pointer (some ⟨b, 0, none⟩), .pointer (some ⟨mb, 0, none⟩), .int .i64 0, .int .u64 va] w fun e w' => e = .returned (.tuple #[.int .u64 (if accK (bB va v).1 false = 0 then bM va v (accI (bB va v).1 va) else 0), fV (accK (bB va v).1 false) va false]) ∧ Rdy W w' b g T mb mg mc (bS2 va v) (bM va v) ∧ KeepO w.heap.size T mg w w' :=
  load_rdy W w b g T mb mg mc 0 _ _ va h (by decide) h0 h1 ha
theorem bk_load1 (W w : World) (b g : Nat) (T : Nat → Nat) (mb mg mc : Nat) (va v : Int) (h : Rdy W w b g T mb mg mc (bS2 va v) (bM va v)) (h0 : 0 ≤ va) (h1 : va < 32768) (ha : va % 8 = 0) :
    Calls Try.prog 16 #[.pointer (some ⟨b, 0, none⟩), .pointer (some ⟨mb, 0, none⟩), .int .i64 1, .int .u64 va] w fun e w' => e = .returned (.tuple #[.int .u64 (if accK (bC va v).1 false = 0 then bM va v (accI (bC va v).1 va) else 0), fV (accK (bC va v).1 false) va false]) ∧ Rdy W w' b g T mb mg mc (setT (bS2 va v) 1 (bC va v).2) (bM va v) ∧ KeepO w.heap.size T mg w w' :=
  load_rdy W w b g T mb mg mc 1 _ _ va h (by decide) h0 h1 ha
set_option maxRecDepth 100000 in
set_option maxHeartbeats 4000000 in
theorem back_0 (a0 : Int) (w0 : (Lit.int .i64 a0).wf = true) (a1 : Int) (w1 : (Lit.int .i64 a1).wf = true) (v : Int) (w2 : (Lit.int .u64 v).wf = true) (q : Nat) (hq : q < 8) (hp0 : lowI a0 8 = 0) (hq0 : lowI a1 8 = (q : Int)) (W : World) :
    Calls Try.prog 5 #[.int .i64 a0, .int .i64 a1, .int .u64 v] W fun e w' => e = .returned (.bool true) ∧ Below W.heap.size W w' := by
  have hv : WordI v := ⟨(u64_of8 w2).1, by have := (u64_of8 w2).2; omega⟩
  have HA0 := Lib.hid (i64_of8 w0)
  have HA1 := Lib.hid (i64_of8 w1)
  clear w0 w1 w2
  have hA : accK (bA (vaB 0 q)).1 true = 5 := bkA 0 (by decide) q hq
  have hva : 64 * ((0 : Nat) : Int) + 8 * (q : Int) = vaB 0 q := rfl
  have x0 : 0 ≤ vaB 0 q := by unfold vaB; omega
  have x1 : vaB 0 q < 32768 := by unfold vaB; omega
  have x2 : vaB 0 q % 8 = 0 := by unfold vaB; omega
  have hva : vaB 0 q = 8 * (q : Int) := by unfold vaB; omega
  generalize vaB 0 q = va at *
  have HVA := Lib.hid hva
  clear hva
  have HP := Lib.hid hp0
  have HQ := Lib.hid hq0
  clear hp0 hq0
  go_enter Try.func5, Try.ntmps5
  go_wp2_with (fail)
  refine (ready_ok _).mono ?_
  rintro e w1 ⟨b, g, T, mb, mg, mc, vb, wb, rfl, hr1⟩
  have HR1 := Lib.hid hr1
  clear hr1
  go_wp2_with (first
    | (go_at_call 21; with_reducible refine (low_any a0 8 _ HA0.out (by decide) (by decide)).mono ?_; rw [HP.out]; rintro e w7 ⟨rfl, rfl⟩)
    | (go_at_call 21; with_reducible refine (low_any a1 8 _ HA1.out (by decide) (by decide)).mono ?_; rw [HQ.out]; rintro e w8 ⟨rfl, rfl⟩))
  rw [← HVA.out]
  refine (bk_store W _ b g T mb mg mc va v HR1.out x0 x1 x2 hv).mono ?_
  rw [hA, show fV 5 va true = faultV 5 va true from rfl]
  rintro e w2 ⟨rfl, hr2, -⟩
  have HR2 := Lib.hid hr2
  have F2 := FltAt.new w2 40 (.int .i64 5) (.int .u64 va) (.bool true)
  have t2 := (fun i hi => Nat.ne_of_gt (hr2.co.tlb i hi).lt)
  have m2 := Nat.ne_of_gt hr2.me.lg
  clear hr2 HR1
  go_wp2_with (first
    | (go_at_call 21; with_reducible refine (low_any a0 8 _ HA0.out (by decide) (by decide)).mono ?_; rw [HP.out]; rintro e w7 ⟨rfl, rfl⟩)
    | (go_at_call 16; refine (bk_load1 W _ b g T mb mg mc va v (HR3.out.call (bal (Below.refl _ _) _)) x0 x1 x2).mono ?_; rw [fV_eq]; generalize (if accK (bC va v).1 false = 0 then bM va v (accI (bC va v).1 va) else 0) = yy; generalize (if accK (bC va v).1 false = 0 then (0 : Int) else va) = c1; generalize (if accK (bC va v).1 false = 0 then false else false) = c2; generalize accK (bC va v).1 false = c0; rintro e w4 ⟨rfl, hr4, hk4⟩; have HR4 := Lib.hid hr4; obtain ⟨s0, s1, s2, sf, sl⟩ := F3.keep hk4 (by simp) t3 m3; obtain ⟨z0, z1, z2, zf, zl⟩ := (HF2.out.call (bal (Below.refl _ _) _)).keep hk4 (by have := rl; simp; omega) (fun i hi => t2 i hi) m2; clear hr4 hk4)
    | (go_at_call 16; refine (bk_load0 W _ b g T mb mg mc va v (HR2.out.call (bal (Below.refl _ _) _)) x0 x1 x2).mono ?_; rw [fV_eq]; generalize (if accK (bB va v).1 false = 0 then bM va v (accI (bB va v).1 va) else 0) = xx; generalize (if accK (bB va v).1 false = 0 then (0 : Int) else va) = d1; generalize (if accK (bB va v).1 false = 0 then false else false) = d2; generalize accK (bB va v).1 false = d0; rintro e w3 ⟨rfl, hr3, hk3⟩; have HR3 := Lib.hid hr3; have F2b := F2.keep hk3 (by simp) t2 m2; have HF2 := Lib.hid F2b; obtain ⟨r0, r1, r2, rf, rl⟩ := F2b; have F3 := FltAt.new w3 40 (.int .i64 d0) (.int .u64 d1) (.bool d2); have t3 := (fun i hi => Nat.ne_of_gt (hr3.co.tlb i hi).lt); have m3 := Nat.ne_of_gt hr3.me.lg; clear hr3 hk3)
    | (go_at_call 7; refine (awake8 _).mono ?_; rintro e w9 ⟨rfl, hb9⟩))
  go_ret
  exact ⟨rfl, bgo (bal HR4.out.be _) hb9⟩
set_option maxRecDepth 100000 in
set_option maxHeartbeats 4000000 in
theorem back_1 (a0 : Int) (w0 : (Lit.int .i64 a0).wf = true) (a1 : Int) (w1 : (Lit.int .i64 a1).wf = true) (v : Int) (w2 : (Lit.int .u64 v).wf = true) (q : Nat) (hq : q < 8) (hp0 : lowI a0 8 = 1) (hq0 : lowI a1 8 = (q : Int)) (W : World) :
    Calls Try.prog 5 #[.int .i64 a0, .int .i64 a1, .int .u64 v] W fun e w' => e = .returned (.bool true) ∧ Below W.heap.size W w' := by
  have hv : WordI v := ⟨(u64_of8 w2).1, by have := (u64_of8 w2).2; omega⟩
  have HA0 := Lib.hid (i64_of8 w0)
  have HA1 := Lib.hid (i64_of8 w1)
  clear w0 w1 w2
  have hA : accK (bA (vaB 1 q)).1 true = 0 := bkA 1 (by decide) q hq
  have hB := bk1 q hq v
  have hva : 64 * ((1 : Nat) : Int) + 8 * (q : Int) = vaB 1 q := rfl
  have x0 : 0 ≤ vaB 1 q := by unfold vaB; omega
  have x1 : vaB 1 q < 32768 := by unfold vaB; omega
  have x2 : vaB 1 q % 8 = 0 := by unfold vaB; omega
  have hva : vaB 1 q = 64 + 8 * (q : Int) := by unfold vaB; omega
  generalize vaB 1 q = va at *
  have HVA := Lib.hid hva
  clear hva
  have HP := Lib.hid hp0
  have HQ := Lib.hid hq0
  clear hp0 hq0
  go_enter Try.func5, Try.ntmps5
  go_wp2_with (fail)
  refine (ready_ok _).mono ?_
  rintro e w1 ⟨b, g, T, mb, mg, mc, vb, wb, rfl, hr1⟩
  have HR1 := Lib.hid hr1
  clear hr1
  go_wp2_with (first
    | (go_at_call 21; with_reducible refine (low_any a0 8 _ HA0.out (by decide) (by decide)).mono ?_; rw [HP.out]; rintro e w7 ⟨rfl, rfl⟩)
    | (go_at_call 21; with_reducible refine (low_any a1 8 _ HA1.out (by decide) (by decide)).mono ?_; rw [HQ.out]; rintro e w8 ⟨rfl, rfl⟩))
  rw [← HVA.out]
  refine (bk_store W _ b g T mb mg mc va v HR1.out x0 x1 x2 hv).mono ?_
  rw [hA, show fV 0 va true = noF from rfl]
  rintro e w2 ⟨rfl, hr2, -⟩
  have HR2 := Lib.hid hr2
  have F2 := FltAt.new w2 40 (.int .i64 0) (.int .u64 0) (.bool false)
  have t2 := (fun i hi => Nat.ne_of_gt (hr2.co.tlb i hi).lt)
  have m2 := Nat.ne_of_gt hr2.me.lg
  clear hr2 HR1
  go_wp2_with (first
    | (go_at_call 21; with_reducible refine (low_any a0 8 _ HA0.out (by decide) (by decide)).mono ?_; rw [HP.out]; rintro e w7 ⟨rfl, rfl⟩)
    | (go_at_call 16; refine (bk_load1 W _ b g T mb mg mc va v (HR3.out.call (bal (Below.refl _ _) _)) x0 x1 x2).mono ?_; rw [fV_eq]; generalize (if accK (bC va v).1 false = 0 then bM va v (accI (bC va v).1 va) else 0) = yy; generalize (if accK (bC va v).1 false = 0 then (0 : Int) else va) = c1; generalize (if accK (bC va v).1 false = 0 then false else false) = c2; generalize accK (bC va v).1 false = c0; rintro e w4 ⟨rfl, hr4, hk4⟩; have HR4 := Lib.hid hr4; obtain ⟨s0, s1, s2, sf, sl⟩ := F3.keep hk4 (by simp) t3 m3; obtain ⟨z0, z1, z2, zf, zl⟩ := (HF2.out.call (bal (Below.refl _ _) _)).keep hk4 (by have := rl; simp; omega) (fun i hi => t2 i hi) m2; clear hr4 hk4)
    | (go_at_call 16; refine (bk_load0 W _ b g T mb mg mc va v (HR2.out.call (bal (Below.refl _ _) _)) x0 x1 x2).mono ?_; rw [hB, show fV 5 va false = faultV 5 va false from rfl]; generalize (if (5 : Int) = 0 then bM va v (accI (bB va v).1 va) else 0) = xx; rintro e w3 ⟨rfl, hr3, hk3⟩; have HR3 := Lib.hid hr3; have F2b := F2.keep hk3 (by simp) t2 m2; have HF2 := Lib.hid F2b; obtain ⟨r0, r1, r2, rf, rl⟩ := F2b; have F3 := FltAt.new w3 40 (.int .i64 5) (.int .u64 va) (.bool false); have t3 := (fun i hi => Nat.ne_of_gt (hr3.co.tlb i hi).lt); have m3 := Nat.ne_of_gt hr3.me.lg; clear hr3 hk3)
    | (go_at_call 7; refine (awake8 _).mono ?_; rintro e w9 ⟨rfl, hb9⟩))
  go_ret
  exact ⟨rfl, bgo (bal HR4.out.be _) hb9⟩
set_option maxRecDepth 100000 in
set_option maxHeartbeats 4000000 in
theorem back_2 (a0 : Int) (w0 : (Lit.int .i64 a0).wf = true) (a1 : Int) (w1 : (Lit.int .i64 a1).wf = true) (v : Int) (w2 : (Lit.int .u64 v).wf = true) (q : Nat) (hq : q < 8) (hp0 : lowI a0 8 = 2) (hq0 : lowI a1 8 = (q : Int)) (W : World) :
    Calls Try.prog 5 #[.int .i64 a0, .int .i64 a1, .int .u64 v] W fun e w' => e = .returned (.bool true) ∧ Below W.heap.size W w' := by
  have hv : WordI v := ⟨(u64_of8 w2).1, by have := (u64_of8 w2).2; omega⟩
  have HA0 := Lib.hid (i64_of8 w0)
  have HA1 := Lib.hid (i64_of8 w1)
  clear w0 w1 w2
  have hA : accK (bA (vaB 2 q)).1 true = 0 := bkA 2 (by decide) q hq
  obtain ⟨hB, hX, hC, hY⟩ := bk2 q hq v
  have hva : 64 * ((2 : Nat) : Int) + 8 * (q : Int) = vaB 2 q := rfl
  have x0 : 0 ≤ vaB 2 q := by unfold vaB; omega
  have x1 : vaB 2 q < 32768 := by unfold vaB; omega
  have x2 : vaB 2 q % 8 = 0 := by unfold vaB; omega
  have hva : vaB 2 q = 128 + 8 * (q : Int) := by unfold vaB; omega
  generalize vaB 2 q = va at *
  have HVA := Lib.hid hva
  clear hva
  have HP := Lib.hid hp0
  have HQ := Lib.hid hq0
  clear hp0 hq0
  go_enter Try.func5, Try.ntmps5
  go_wp2_with (fail)
  refine (ready_ok _).mono ?_
  rintro e w1 ⟨b, g, T, mb, mg, mc, vb, wb, rfl, hr1⟩
  have HR1 := Lib.hid hr1
  clear hr1
  go_wp2_with (first
    | (go_at_call 21; with_reducible refine (low_any a0 8 _ HA0.out (by decide) (by decide)).mono ?_; rw [HP.out]; rintro e w7 ⟨rfl, rfl⟩)
    | (go_at_call 21; with_reducible refine (low_any a1 8 _ HA1.out (by decide) (by decide)).mono ?_; rw [HQ.out]; rintro e w8 ⟨rfl, rfl⟩))
  rw [← HVA.out]
  refine (bk_store W _ b g T mb mg mc va v HR1.out x0 x1 x2 hv).mono ?_
  rw [hA, show fV 0 va true = noF from rfl]
  rintro e w2 ⟨rfl, hr2, -⟩
  have HR2 := Lib.hid hr2
  have F2 := FltAt.new w2 40 (.int .i64 0) (.int .u64 0) (.bool false)
  have t2 := (fun i hi => Nat.ne_of_gt (hr2.co.tlb i hi).lt)
  have m2 := Nat.ne_of_gt hr2.me.lg
  clear hr2 HR1
  go_wp2_with (first
    | (go_at_call 21; with_reducible refine (low_any a0 8 _ HA0.out (by decide) (by decide)).mono ?_; rw [HP.out]; rintro e w7 ⟨rfl, rfl⟩)
    | (go_at_call 16; refine (bk_load1 W _ b g T mb mg mc va v (HR3.out.call (bal (Below.refl _ _) _)) x0 x1 x2).mono ?_; rw [hC, if_pos rfl, hY, show fV 0 va false = noF from rfl]; rintro e w4 ⟨rfl, hr4, hk4⟩; have HR4 := Lib.hid hr4; obtain ⟨s0, s1, s2, sf, sl⟩ := F3.keep hk4 (by simp) t3 m3; obtain ⟨z0, z1, z2, zf, zl⟩ := (HF2.out.call (bal (Below.refl _ _) _)).keep hk4 (by have := rl; simp; omega) (fun i hi => t2 i hi) m2; clear hr4 hk4)
    | (go_at_call 16; refine (bk_load0 W _ b g T mb mg mc va v (HR2.out.call (bal (Below.refl _ _) _)) x0 x1 x2).mono ?_; rw [hB, if_pos rfl, hX, show fV 0 va false = noF from rfl]; rintro e w3 ⟨rfl, hr3, hk3⟩; have HR3 := Lib.hid hr3; have F2b := F2.keep hk3 (by simp) t2 m2; have HF2 := Lib.hid F2b; obtain ⟨r0, r1, r2, rf, rl⟩ := F2b; have F3 := FltAt.new w3 40 (.int .i64 0) (.int .u64 0) (.bool false); have t3 := (fun i hi => Nat.ne_of_gt (hr3.co.tlb i hi).lt); have m3 := Nat.ne_of_gt hr3.me.lg; clear hr3 hk3)
    | (go_at_call 7; refine (awake8 _).mono ?_; rintro e w9 ⟨rfl, hb9⟩))
  go_ret
  exact ⟨rfl, bgo (bal HR4.out.be _) hb9⟩
set_option maxRecDepth 100000 in
set_option maxHeartbeats 4000000 in
theorem back_3 (a0 : Int) (w0 : (Lit.int .i64 a0).wf = true) (a1 : Int) (w1 : (Lit.int .i64 a1).wf = true) (v : Int) (w2 : (Lit.int .u64 v).wf = true) (q : Nat) (hq : q < 8) (hp0 : lowI a0 8 = 3) (hq0 : lowI a1 8 = (q : Int)) (W : World) :
    Calls Try.prog 5 #[.int .i64 a0, .int .i64 a1, .int .u64 v] W fun e w' => e = .returned (.bool true) ∧ Below W.heap.size W w' := by
  have hv : WordI v := ⟨(u64_of8 w2).1, by have := (u64_of8 w2).2; omega⟩
  have HA0 := Lib.hid (i64_of8 w0)
  have HA1 := Lib.hid (i64_of8 w1)
  clear w0 w1 w2
  have hA : accK (bA (vaB 3 q)).1 true = 5 := bkA 3 (by decide) q hq
  have hva : 64 * ((3 : Nat) : Int) + 8 * (q : Int) = vaB 3 q := rfl
  have x0 : 0 ≤ vaB 3 q := by unfold vaB; omega
  have x1 : vaB 3 q < 32768 := by unfold vaB; omega
  have x2 : vaB 3 q % 8 = 0 := by unfold vaB; omega
  have hva : vaB 3 q = 192 + 8 * (q : Int) := by unfold vaB; omega
  generalize vaB 3 q = va at *
  have HVA := Lib.hid hva
  clear hva
  have HP := Lib.hid hp0
  have HQ := Lib.hid hq0
  clear hp0 hq0
  go_enter Try.func5, Try.ntmps5
  go_wp2_with (fail)
  refine (ready_ok _).mono ?_
  rintro e w1 ⟨b, g, T, mb, mg, mc, vb, wb, rfl, hr1⟩
  have HR1 := Lib.hid hr1
  clear hr1
  go_wp2_with (first
    | (go_at_call 21; with_reducible refine (low_any a0 8 _ HA0.out (by decide) (by decide)).mono ?_; rw [HP.out]; rintro e w7 ⟨rfl, rfl⟩)
    | (go_at_call 21; with_reducible refine (low_any a1 8 _ HA1.out (by decide) (by decide)).mono ?_; rw [HQ.out]; rintro e w8 ⟨rfl, rfl⟩))
  rw [← HVA.out]
  refine (bk_store W _ b g T mb mg mc va v HR1.out x0 x1 x2 hv).mono ?_
  rw [hA, show fV 5 va true = faultV 5 va true from rfl]
  rintro e w2 ⟨rfl, hr2, -⟩
  have HR2 := Lib.hid hr2
  have F2 := FltAt.new w2 40 (.int .i64 5) (.int .u64 va) (.bool true)
  have t2 := (fun i hi => Nat.ne_of_gt (hr2.co.tlb i hi).lt)
  have m2 := Nat.ne_of_gt hr2.me.lg
  clear hr2 HR1
  go_wp2_with (first
    | (go_at_call 21; with_reducible refine (low_any a0 8 _ HA0.out (by decide) (by decide)).mono ?_; rw [HP.out]; rintro e w7 ⟨rfl, rfl⟩)
    | (go_at_call 16; refine (bk_load1 W _ b g T mb mg mc va v (HR3.out.call (bal (Below.refl _ _) _)) x0 x1 x2).mono ?_; rw [fV_eq]; generalize (if accK (bC va v).1 false = 0 then bM va v (accI (bC va v).1 va) else 0) = yy; generalize (if accK (bC va v).1 false = 0 then (0 : Int) else va) = c1; generalize (if accK (bC va v).1 false = 0 then false else false) = c2; generalize accK (bC va v).1 false = c0; rintro e w4 ⟨rfl, hr4, hk4⟩; have HR4 := Lib.hid hr4; obtain ⟨s0, s1, s2, sf, sl⟩ := F3.keep hk4 (by simp) t3 m3; obtain ⟨z0, z1, z2, zf, zl⟩ := (HF2.out.call (bal (Below.refl _ _) _)).keep hk4 (by have := rl; simp; omega) (fun i hi => t2 i hi) m2; clear hr4 hk4)
    | (go_at_call 16; refine (bk_load0 W _ b g T mb mg mc va v (HR2.out.call (bal (Below.refl _ _) _)) x0 x1 x2).mono ?_; rw [fV_eq]; generalize (if accK (bB va v).1 false = 0 then bM va v (accI (bB va v).1 va) else 0) = xx; generalize (if accK (bB va v).1 false = 0 then (0 : Int) else va) = d1; generalize (if accK (bB va v).1 false = 0 then false else false) = d2; generalize accK (bB va v).1 false = d0; rintro e w3 ⟨rfl, hr3, hk3⟩; have HR3 := Lib.hid hr3; have F2b := F2.keep hk3 (by simp) t2 m2; have HF2 := Lib.hid F2b; obtain ⟨r0, r1, r2, rf, rl⟩ := F2b; have F3 := FltAt.new w3 40 (.int .i64 d0) (.int .u64 d1) (.bool d2); have t3 := (fun i hi => Nat.ne_of_gt (hr3.co.tlb i hi).lt); have m3 := Nat.ne_of_gt hr3.me.lg; clear hr3 hk3)
    | (go_at_call 7; refine (awake8 _).mono ?_; rintro e w9 ⟨rfl, hb9⟩))
  go_ret
  exact ⟨rfl, bgo (bal HR4.out.be _) hb9⟩
set_option maxRecDepth 100000 in
set_option maxHeartbeats 4000000 in
theorem back_4 (a0 : Int) (w0 : (Lit.int .i64 a0).wf = true) (a1 : Int) (w1 : (Lit.int .i64 a1).wf = true) (v : Int) (w2 : (Lit.int .u64 v).wf = true) (q : Nat) (hq : q < 8) (hp0 : lowI a0 8 = 4) (hq0 : lowI a1 8 = (q : Int)) (W : World) :
    Calls Try.prog 5 #[.int .i64 a0, .int .i64 a1, .int .u64 v] W fun e w' => e = .returned (.bool true) ∧ Below W.heap.size W w' := by
  have hv : WordI v := ⟨(u64_of8 w2).1, by have := (u64_of8 w2).2; omega⟩
  have HA0 := Lib.hid (i64_of8 w0)
  have HA1 := Lib.hid (i64_of8 w1)
  clear w0 w1 w2
  have hA : accK (bA (vaB 4 q)).1 true = 0 := bkA 4 (by decide) q hq
  obtain ⟨hB, hX, hC, hY⟩ := bk4 q hq v
  have hva : 64 * ((4 : Nat) : Int) + 8 * (q : Int) = vaB 4 q := rfl
  have x0 : 0 ≤ vaB 4 q := by unfold vaB; omega
  have x1 : vaB 4 q < 32768 := by unfold vaB; omega
  have x2 : vaB 4 q % 8 = 0 := by unfold vaB; omega
  have hva : vaB 4 q = 256 + 8 * (q : Int) := by unfold vaB; omega
  generalize vaB 4 q = va at *
  have HVA := Lib.hid hva
  clear hva
  have HP := Lib.hid hp0
  have HQ := Lib.hid hq0
  clear hp0 hq0
  go_enter Try.func5, Try.ntmps5
  go_wp2_with (fail)
  refine (ready_ok _).mono ?_
  rintro e w1 ⟨b, g, T, mb, mg, mc, vb, wb, rfl, hr1⟩
  have HR1 := Lib.hid hr1
  clear hr1
  go_wp2_with (first
    | (go_at_call 21; with_reducible refine (low_any a0 8 _ HA0.out (by decide) (by decide)).mono ?_; rw [HP.out]; rintro e w7 ⟨rfl, rfl⟩)
    | (go_at_call 21; with_reducible refine (low_any a1 8 _ HA1.out (by decide) (by decide)).mono ?_; rw [HQ.out]; rintro e w8 ⟨rfl, rfl⟩))
  rw [← HVA.out]
  refine (bk_store W _ b g T mb mg mc va v HR1.out x0 x1 x2 hv).mono ?_
  rw [hA, show fV 0 va true = noF from rfl]
  rintro e w2 ⟨rfl, hr2, -⟩
  have HR2 := Lib.hid hr2
  have F2 := FltAt.new w2 40 (.int .i64 0) (.int .u64 0) (.bool false)
  have t2 := (fun i hi => Nat.ne_of_gt (hr2.co.tlb i hi).lt)
  have m2 := Nat.ne_of_gt hr2.me.lg
  clear hr2 HR1
  go_wp2_with (first
    | (go_at_call 21; with_reducible refine (low_any a0 8 _ HA0.out (by decide) (by decide)).mono ?_; rw [HP.out]; rintro e w7 ⟨rfl, rfl⟩)
    | (go_at_call 16; refine (bk_load1 W _ b g T mb mg mc va v (HR3.out.call (bal (Below.refl _ _) _)) x0 x1 x2).mono ?_; rw [hC, if_pos rfl, hY, show fV 0 va false = noF from rfl]; rintro e w4 ⟨rfl, hr4, hk4⟩; have HR4 := Lib.hid hr4; obtain ⟨s0, s1, s2, sf, sl⟩ := F3.keep hk4 (by simp) t3 m3; obtain ⟨z0, z1, z2, zf, zl⟩ := (HF2.out.call (bal (Below.refl _ _) _)).keep hk4 (by have := rl; simp; omega) (fun i hi => t2 i hi) m2; clear hr4 hk4)
    | (go_at_call 16; refine (bk_load0 W _ b g T mb mg mc va v (HR2.out.call (bal (Below.refl _ _) _)) x0 x1 x2).mono ?_; rw [hB, if_pos rfl, hX, show fV 0 va false = noF from rfl]; rintro e w3 ⟨rfl, hr3, hk3⟩; have HR3 := Lib.hid hr3; have F2b := F2.keep hk3 (by simp) t2 m2; have HF2 := Lib.hid F2b; obtain ⟨r0, r1, r2, rf, rl⟩ := F2b; have F3 := FltAt.new w3 40 (.int .i64 0) (.int .u64 0) (.bool false); have t3 := (fun i hi => Nat.ne_of_gt (hr3.co.tlb i hi).lt); have m3 := Nat.ne_of_gt hr3.me.lg; clear hr3 hk3)
    | (go_at_call 7; refine (awake8 _).mono ?_; rintro e w9 ⟨rfl, hb9⟩))
  go_ret
  exact ⟨rfl, bgo (bal HR4.out.be _) hb9⟩
set_option maxRecDepth 100000 in
set_option maxHeartbeats 4000000 in
theorem back_5 (a0 : Int) (w0 : (Lit.int .i64 a0).wf = true) (a1 : Int) (w1 : (Lit.int .i64 a1).wf = true) (v : Int) (w2 : (Lit.int .u64 v).wf = true) (q : Nat) (hq : q < 8) (hp0 : lowI a0 8 = 5) (hq0 : lowI a1 8 = (q : Int)) (W : World) :
    Calls Try.prog 5 #[.int .i64 a0, .int .i64 a1, .int .u64 v] W fun e w' => e = .returned (.bool true) ∧ Below W.heap.size W w' := by
  have hv : WordI v := ⟨(u64_of8 w2).1, by have := (u64_of8 w2).2; omega⟩
  have HA0 := Lib.hid (i64_of8 w0)
  have HA1 := Lib.hid (i64_of8 w1)
  clear w0 w1 w2
  have hA : accK (bA (vaB 5 q)).1 true = 4 := bkA 5 (by decide) q hq
  have hva : 64 * ((5 : Nat) : Int) + 8 * (q : Int) = vaB 5 q := rfl
  have x0 : 0 ≤ vaB 5 q := by unfold vaB; omega
  have x1 : vaB 5 q < 32768 := by unfold vaB; omega
  have x2 : vaB 5 q % 8 = 0 := by unfold vaB; omega
  have hva : vaB 5 q = 320 + 8 * (q : Int) := by unfold vaB; omega
  generalize vaB 5 q = va at *
  have HVA := Lib.hid hva
  clear hva
  have HP := Lib.hid hp0
  have HQ := Lib.hid hq0
  clear hp0 hq0
  go_enter Try.func5, Try.ntmps5
  go_wp2_with (fail)
  refine (ready_ok _).mono ?_
  rintro e w1 ⟨b, g, T, mb, mg, mc, vb, wb, rfl, hr1⟩
  have HR1 := Lib.hid hr1
  clear hr1
  go_wp2_with (first
    | (go_at_call 21; with_reducible refine (low_any a0 8 _ HA0.out (by decide) (by decide)).mono ?_; rw [HP.out]; rintro e w7 ⟨rfl, rfl⟩)
    | (go_at_call 21; with_reducible refine (low_any a1 8 _ HA1.out (by decide) (by decide)).mono ?_; rw [HQ.out]; rintro e w8 ⟨rfl, rfl⟩))
  rw [← HVA.out]
  refine (bk_store W _ b g T mb mg mc va v HR1.out x0 x1 x2 hv).mono ?_
  rw [hA, show fV 4 va true = faultV 4 va true from rfl]
  rintro e w2 ⟨rfl, hr2, -⟩
  have HR2 := Lib.hid hr2
  have F2 := FltAt.new w2 40 (.int .i64 4) (.int .u64 va) (.bool true)
  have t2 := (fun i hi => Nat.ne_of_gt (hr2.co.tlb i hi).lt)
  have m2 := Nat.ne_of_gt hr2.me.lg
  clear hr2 HR1
  go_wp2_with (first
    | (go_at_call 21; with_reducible refine (low_any a0 8 _ HA0.out (by decide) (by decide)).mono ?_; rw [HP.out]; rintro e w7 ⟨rfl, rfl⟩)
    | (go_at_call 16; refine (bk_load1 W _ b g T mb mg mc va v (HR3.out.call (bal (Below.refl _ _) _)) x0 x1 x2).mono ?_; rw [fV_eq]; generalize (if accK (bC va v).1 false = 0 then bM va v (accI (bC va v).1 va) else 0) = yy; generalize (if accK (bC va v).1 false = 0 then (0 : Int) else va) = c1; generalize (if accK (bC va v).1 false = 0 then false else false) = c2; generalize accK (bC va v).1 false = c0; rintro e w4 ⟨rfl, hr4, hk4⟩; have HR4 := Lib.hid hr4; obtain ⟨s0, s1, s2, sf, sl⟩ := F3.keep hk4 (by simp) t3 m3; obtain ⟨z0, z1, z2, zf, zl⟩ := (HF2.out.call (bal (Below.refl _ _) _)).keep hk4 (by have := rl; simp; omega) (fun i hi => t2 i hi) m2; clear hr4 hk4)
    | (go_at_call 16; refine (bk_load0 W _ b g T mb mg mc va v (HR2.out.call (bal (Below.refl _ _) _)) x0 x1 x2).mono ?_; rw [fV_eq]; generalize (if accK (bB va v).1 false = 0 then bM va v (accI (bB va v).1 va) else 0) = xx; generalize (if accK (bB va v).1 false = 0 then (0 : Int) else va) = d1; generalize (if accK (bB va v).1 false = 0 then false else false) = d2; generalize accK (bB va v).1 false = d0; rintro e w3 ⟨rfl, hr3, hk3⟩; have HR3 := Lib.hid hr3; have F2b := F2.keep hk3 (by simp) t2 m2; have HF2 := Lib.hid F2b; obtain ⟨r0, r1, r2, rf, rl⟩ := F2b; have F3 := FltAt.new w3 40 (.int .i64 d0) (.int .u64 d1) (.bool d2); have t3 := (fun i hi => Nat.ne_of_gt (hr3.co.tlb i hi).lt); have m3 := Nat.ne_of_gt hr3.me.lg; clear hr3 hk3)
    | (go_at_call 7; refine (awake8 _).mono ?_; rintro e w9 ⟨rfl, hb9⟩))
  go_ret
  exact ⟨rfl, bgo (bal HR4.out.be _) hb9⟩
set_option maxRecDepth 100000 in
set_option maxHeartbeats 4000000 in
theorem back_6 (a0 : Int) (w0 : (Lit.int .i64 a0).wf = true) (a1 : Int) (w1 : (Lit.int .i64 a1).wf = true) (v : Int) (w2 : (Lit.int .u64 v).wf = true) (q : Nat) (hq : q < 8) (hp0 : lowI a0 8 = 6) (hq0 : lowI a1 8 = (q : Int)) (W : World) :
    Calls Try.prog 5 #[.int .i64 a0, .int .i64 a1, .int .u64 v] W fun e w' => e = .returned (.bool true) ∧ Below W.heap.size W w' := by
  have hv : WordI v := ⟨(u64_of8 w2).1, by have := (u64_of8 w2).2; omega⟩
  have HA0 := Lib.hid (i64_of8 w0)
  have HA1 := Lib.hid (i64_of8 w1)
  clear w0 w1 w2
  have hA : accK (bA (vaB 6 q)).1 true = 4 := bkA 6 (by decide) q hq
  have hva : 64 * ((6 : Nat) : Int) + 8 * (q : Int) = vaB 6 q := rfl
  have x0 : 0 ≤ vaB 6 q := by unfold vaB; omega
  have x1 : vaB 6 q < 32768 := by unfold vaB; omega
  have x2 : vaB 6 q % 8 = 0 := by unfold vaB; omega
  have hva : vaB 6 q = 384 + 8 * (q : Int) := by unfold vaB; omega
  generalize vaB 6 q = va at *
  have HVA := Lib.hid hva
  clear hva
  have HP := Lib.hid hp0
  have HQ := Lib.hid hq0
  clear hp0 hq0
  go_enter Try.func5, Try.ntmps5
  go_wp2_with (fail)
  refine (ready_ok _).mono ?_
  rintro e w1 ⟨b, g, T, mb, mg, mc, vb, wb, rfl, hr1⟩
  have HR1 := Lib.hid hr1
  clear hr1
  go_wp2_with (first
    | (go_at_call 21; with_reducible refine (low_any a0 8 _ HA0.out (by decide) (by decide)).mono ?_; rw [HP.out]; rintro e w7 ⟨rfl, rfl⟩)
    | (go_at_call 21; with_reducible refine (low_any a1 8 _ HA1.out (by decide) (by decide)).mono ?_; rw [HQ.out]; rintro e w8 ⟨rfl, rfl⟩))
  rw [← HVA.out]
  refine (bk_store W _ b g T mb mg mc va v HR1.out x0 x1 x2 hv).mono ?_
  rw [hA, show fV 4 va true = faultV 4 va true from rfl]
  rintro e w2 ⟨rfl, hr2, -⟩
  have HR2 := Lib.hid hr2
  have F2 := FltAt.new w2 40 (.int .i64 4) (.int .u64 va) (.bool true)
  have t2 := (fun i hi => Nat.ne_of_gt (hr2.co.tlb i hi).lt)
  have m2 := Nat.ne_of_gt hr2.me.lg
  clear hr2 HR1
  go_wp2_with (first
    | (go_at_call 21; with_reducible refine (low_any a0 8 _ HA0.out (by decide) (by decide)).mono ?_; rw [HP.out]; rintro e w7 ⟨rfl, rfl⟩)
    | (go_at_call 16; refine (bk_load1 W _ b g T mb mg mc va v (HR3.out.call (bal (Below.refl _ _) _)) x0 x1 x2).mono ?_; rw [fV_eq]; generalize (if accK (bC va v).1 false = 0 then bM va v (accI (bC va v).1 va) else 0) = yy; generalize (if accK (bC va v).1 false = 0 then (0 : Int) else va) = c1; generalize (if accK (bC va v).1 false = 0 then false else false) = c2; generalize accK (bC va v).1 false = c0; rintro e w4 ⟨rfl, hr4, hk4⟩; have HR4 := Lib.hid hr4; obtain ⟨s0, s1, s2, sf, sl⟩ := F3.keep hk4 (by simp) t3 m3; obtain ⟨z0, z1, z2, zf, zl⟩ := (HF2.out.call (bal (Below.refl _ _) _)).keep hk4 (by have := rl; simp; omega) (fun i hi => t2 i hi) m2; clear hr4 hk4)
    | (go_at_call 16; refine (bk_load0 W _ b g T mb mg mc va v (HR2.out.call (bal (Below.refl _ _) _)) x0 x1 x2).mono ?_; rw [fV_eq]; generalize (if accK (bB va v).1 false = 0 then bM va v (accI (bB va v).1 va) else 0) = xx; generalize (if accK (bB va v).1 false = 0 then (0 : Int) else va) = d1; generalize (if accK (bB va v).1 false = 0 then false else false) = d2; generalize accK (bB va v).1 false = d0; rintro e w3 ⟨rfl, hr3, hk3⟩; have HR3 := Lib.hid hr3; have F2b := F2.keep hk3 (by simp) t2 m2; have HF2 := Lib.hid F2b; obtain ⟨r0, r1, r2, rf, rl⟩ := F2b; have F3 := FltAt.new w3 40 (.int .i64 d0) (.int .u64 d1) (.bool d2); have t3 := (fun i hi => Nat.ne_of_gt (hr3.co.tlb i hi).lt); have m3 := Nat.ne_of_gt hr3.me.lg; clear hr3 hk3)
    | (go_at_call 7; refine (awake8 _).mono ?_; rintro e w9 ⟨rfl, hb9⟩))
  go_ret
  exact ⟨rfl, bgo (bal HR4.out.be _) hb9⟩
set_option maxRecDepth 100000 in
set_option maxHeartbeats 4000000 in
theorem back_7 (a0 : Int) (w0 : (Lit.int .i64 a0).wf = true) (a1 : Int) (w1 : (Lit.int .i64 a1).wf = true) (v : Int) (w2 : (Lit.int .u64 v).wf = true) (q : Nat) (hq : q < 8) (hp0 : lowI a0 8 = 7) (hq0 : lowI a1 8 = (q : Int)) (W : World) :
    Calls Try.prog 5 #[.int .i64 a0, .int .i64 a1, .int .u64 v] W fun e w' => e = .returned (.bool true) ∧ Below W.heap.size W w' := by
  have hv : WordI v := ⟨(u64_of8 w2).1, by have := (u64_of8 w2).2; omega⟩
  have HA0 := Lib.hid (i64_of8 w0)
  have HA1 := Lib.hid (i64_of8 w1)
  clear w0 w1 w2
  have hA : accK (bA (vaB 7 q)).1 true = 4 := bkA 7 (by decide) q hq
  have hva : 64 * ((7 : Nat) : Int) + 8 * (q : Int) = vaB 7 q := rfl
  have x0 : 0 ≤ vaB 7 q := by unfold vaB; omega
  have x1 : vaB 7 q < 32768 := by unfold vaB; omega
  have x2 : vaB 7 q % 8 = 0 := by unfold vaB; omega
  have hva : vaB 7 q = 448 + 8 * (q : Int) := by unfold vaB; omega
  generalize vaB 7 q = va at *
  have HVA := Lib.hid hva
  clear hva
  have HP := Lib.hid hp0
  have HQ := Lib.hid hq0
  clear hp0 hq0
  go_enter Try.func5, Try.ntmps5
  go_wp2_with (fail)
  refine (ready_ok _).mono ?_
  rintro e w1 ⟨b, g, T, mb, mg, mc, vb, wb, rfl, hr1⟩
  have HR1 := Lib.hid hr1
  clear hr1
  go_wp2_with (first
    | (go_at_call 21; with_reducible refine (low_any a0 8 _ HA0.out (by decide) (by decide)).mono ?_; rw [HP.out]; rintro e w7 ⟨rfl, rfl⟩)
    | (go_at_call 21; with_reducible refine (low_any a1 8 _ HA1.out (by decide) (by decide)).mono ?_; rw [HQ.out]; rintro e w8 ⟨rfl, rfl⟩))
  rw [← HVA.out]
  refine (bk_store W _ b g T mb mg mc va v HR1.out x0 x1 x2 hv).mono ?_
  rw [hA, show fV 4 va true = faultV 4 va true from rfl]
  rintro e w2 ⟨rfl, hr2, -⟩
  have HR2 := Lib.hid hr2
  have F2 := FltAt.new w2 40 (.int .i64 4) (.int .u64 va) (.bool true)
  have t2 := (fun i hi => Nat.ne_of_gt (hr2.co.tlb i hi).lt)
  have m2 := Nat.ne_of_gt hr2.me.lg
  clear hr2 HR1
  go_wp2_with (first
    | (go_at_call 21; with_reducible refine (low_any a0 8 _ HA0.out (by decide) (by decide)).mono ?_; rw [HP.out]; rintro e w7 ⟨rfl, rfl⟩)
    | (go_at_call 16; refine (bk_load1 W _ b g T mb mg mc va v (HR3.out.call (bal (Below.refl _ _) _)) x0 x1 x2).mono ?_; rw [fV_eq]; generalize (if accK (bC va v).1 false = 0 then bM va v (accI (bC va v).1 va) else 0) = yy; generalize (if accK (bC va v).1 false = 0 then (0 : Int) else va) = c1; generalize (if accK (bC va v).1 false = 0 then false else false) = c2; generalize accK (bC va v).1 false = c0; rintro e w4 ⟨rfl, hr4, hk4⟩; have HR4 := Lib.hid hr4; obtain ⟨s0, s1, s2, sf, sl⟩ := F3.keep hk4 (by simp) t3 m3; obtain ⟨z0, z1, z2, zf, zl⟩ := (HF2.out.call (bal (Below.refl _ _) _)).keep hk4 (by have := rl; simp; omega) (fun i hi => t2 i hi) m2; clear hr4 hk4)
    | (go_at_call 16; refine (bk_load0 W _ b g T mb mg mc va v (HR2.out.call (bal (Below.refl _ _) _)) x0 x1 x2).mono ?_; rw [fV_eq]; generalize (if accK (bB va v).1 false = 0 then bM va v (accI (bB va v).1 va) else 0) = xx; generalize (if accK (bB va v).1 false = 0 then (0 : Int) else va) = d1; generalize (if accK (bB va v).1 false = 0 then false else false) = d2; generalize accK (bB va v).1 false = d0; rintro e w3 ⟨rfl, hr3, hk3⟩; have HR3 := Lib.hid hr3; have F2b := F2.keep hk3 (by simp) t2 m2; have HF2 := Lib.hid F2b; obtain ⟨r0, r1, r2, rf, rl⟩ := F2b; have F3 := FltAt.new w3 40 (.int .i64 d0) (.int .u64 d1) (.bool d2); have t3 := (fun i hi => Nat.ne_of_gt (hr3.co.tlb i hi).lt); have m3 := Nat.ne_of_gt hr3.me.lg; clear hr3 hk3)
    | (go_at_call 7; refine (awake8 _).mono ?_; rintro e w9 ⟨rfl, hb9⟩))
  go_ret
  exact ⟨rfl, bgo (bal HR4.out.be _) hb9⟩
set_option maxRecDepth 100000 in
theorem walk_accessBack (a0 : Int) (w0 : (Lit.int .i64 a0).wf = true) (a1 : Int) (w1 : (Lit.int .i64 a1).wf = true) (a2 : Int) (w2 : (Lit.int .u64 a2).wf = true) (W : World) :
    Calls Try.prog 5 #[.int .i64 a0, .int .i64 a1, .int .u64 a2] W fun e w' => e = .returned (.bool true) ∧ Below W.heap.size W w' := by
  have p0 := lowI_0 a0 8 (by decide)
  have p1 := lowI_1 a0 8 (by decide)
  have q0 := lowI_0 a1 8 (by decide)
  have q1 := lowI_1 a1 8 (by decide)
  obtain ⟨q, hq⟩ := Int.eq_ofNat_of_zero_le q0
  rcases (by omega : lowI a0 8 = 0 ∨ lowI a0 8 = 1 ∨ lowI a0 8 = 2 ∨ lowI a0 8 = 3 ∨ lowI a0 8 = 4 ∨ lowI a0 8 = 5 ∨ lowI a0 8 = 6 ∨ lowI a0 8 = 7) with h | h | h | h | h | h | h | h
  · exact back_0 a0 w0 a1 w1 a2 w2 q (by omega) h hq W
  · exact back_1 a0 w0 a1 w1 a2 w2 q (by omega) h hq W
  · exact back_2 a0 w0 a1 w1 a2 w2 q (by omega) h hq W
  · exact back_3 a0 w0 a1 w1 a2 w2 q (by omega) h hq W
  · exact back_4 a0 w0 a1 w1 a2 w2 q (by omega) h hq W
  · exact back_5 a0 w0 a1 w1 a2 w2 q (by omega) h hq W
  · exact back_6 a0 w0 a1 w1 a2 w2 q (by omega) h hq W
  · exact back_7 a0 w0 a1 w1 a2 w2 q (by omega) h hq W
end Go.Proofs.Ytgfidbjhihignaa
