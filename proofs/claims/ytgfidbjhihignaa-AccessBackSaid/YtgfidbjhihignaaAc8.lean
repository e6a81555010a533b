/- Chapter 8's statements: awake; the law AccessNone. -/
import Derived.Test.YtgfidbjhihignaaAc7
namespace Go.Proofs.Ytgfidbjhihignaa
set_option linter.unusedVariables false
set_option linter.unusedSimpArgs false
open Go.ChangeShapes Go.WideShapes Go.ChangeAt Go.RowKit Go.Shelf

abbrev M25 : Nat → Int := updM (mR 9) 25 9
theorem aw_1 : accK (zR (fun _ => S0) M25 0 8).1 false = 0 := by decide +kernel
theorem aw_2 : M25 (accI (zR (fun _ => S0) M25 0 8).1 8) = 9 := by decide +kernel
theorem aw_3 : accK (zR (setT (fun _ => S0) 0 (zR (fun _ => S0) M25 0 8).2) M25 0 8).1 true = 5 := by decide +kernel
theorem Rdy.store {W w w' : World} {b g : Nat} {T : Nat → Nat} {mb mg mc : Nat} {S : Nat → TS} {M M' : Nat → Int} (h : Rdy W w b g T mb mg mc S M) (hm : MemAt w' mb mg 8 mc M') (ho : BlkOnly mg w w') : Rdy W w' b g T mb mg mc S M' :=
  ⟨h.co.blk ho h.n2 h.n4 h.n6, hm, h.lb, h.lg, h.lt, h.lmb, h.lmg, h.n1, h.n2, h.n3, h.n4, h.n5, h.n6, h.be.trans (ho.below h.lmg h.me.lg)⟩
set_option maxRecDepth 100000 in
set_option maxHeartbeats 1000000 in
theorem awake8 (W : World) : Calls Try.prog 7 #[] W fun e w' => e = .returned (.bool true) ∧ Below W.heap.size W w' := by
  have hv9 : WordI 9 := ⟨by decide, by decide⟩
  have hv1 : WordI 1 := ⟨by decide, by decide⟩
  go_enter Try.func7, Try.ntmps7
  go_wp2_with (fail)
  refine (ready_ok _).mono ?_
  rintro e w1 ⟨b, g, T, mb, mg, mc, vb, wb, rfl, hr1⟩
  have HR1 := Lib.hid hr1
  clear hr1
  go_wp2_with (first
    | (go_at_call 12; refine (store_at w1 mb mg 8 mc (mR 9) 200 25 9 HR1.out.me (by decide) (by decide) hv9).mono ?_; rintro e w2 ⟨rfl, hm2, ho2⟩; have HR2 := Lib.hid (HR1.out.store hm2 ho2); clear hm2 ho2)
    | (go_at_call 16; refine (load_rdy W w2 b g T mb mg mc 0 (fun _ => S0) M25 8 HR2.out (by decide) (by decide) (by decide) (by decide)).mono ?_; rw [aw_1, if_pos rfl, aw_2, show fV 0 8 false = noF from rfl]; rintro e w3 ⟨rfl, hr3, -⟩; have HR3 := Lib.hid hr3; have F3 := FltAt.new w3 40 (.int .i64 0) (.int .u64 0) (.bool false); have t3 := (fun i hi => Nat.ne_of_gt (hr3.co.tlb i hi).lt); have m3 := Nat.ne_of_gt hr3.me.lg; clear hr3)
    | (go_at_call 14; refine (store_rdy W _ b g T mb mg mc 0 _ M25 8 1 (HR3.out.call (bal (Below.refl _ _) _)) (by decide) (by decide) (by decide) (by decide) hv1).mono ?_; rw [aw_3, show fV 5 8 true = faultV 5 8 true from rfl]; rintro e w4 ⟨rfl, hr4, hk4⟩; have HR4 := Lib.hid hr4; obtain ⟨r0, r1, r2, rf, rl⟩ := F3.keep hk4 (by simp) t3 m3; clear hr4 hk4 F3))
  go_ret
  exact ⟨rfl, bal HR4.out.be _⟩
theorem u64_of8 {n : Int} (h : (Lit.int .u64 n).wf = true) : 0 ≤ n ∧ n ≤ 18446744073709551615 := by
  simp [Lit.wf, IntKind.min, IntKind.max, IntKind.signed, IntKind.bits] at h
  exact ⟨by omega, by omega⟩
theorem i64_of8 {n : Int} (h : (Lit.int .i64 n).wf = true) : -9223372036854775808 ≤ n ∧ n ≤ 9223372036854775807 := by
  simp [Lit.wf, IntKind.min, IntKind.max, IntKind.signed, IntKind.bits] at h
  exact ⟨by omega, by omega⟩
theorem loc_noc (w : World) (m : Addr) (k va : Int) (h0 : 0 ≤ va) (h1 : va < 32768) (ha : va % 8 = 0) : LocC w none (some m) k va false 0 3 va false (fun a d => Below a.heap.size a d) :=
  fun w1 hb => locate_space w1 none (some m) k va false h0 h1 ha (fun w2 hb2 => walks_noc w2 m k)
theorem loc_nom (w : World) (c : Option Addr) (k va : Int) (h0 : 0 ≤ va) (h1 : va < 32768) (ha : va % 8 = 0) : LocC w c none k va true 0 3 va true (fun a d => Below a.heap.size a d) :=
  fun w1 hb => locate_space w1 c none k va true h0 h1 ha (fun w2 hb2 => walks_nom w2 c k)
set_option maxRecDepth 100000 in
set_option maxHeartbeats 1000000 in
theorem walk_accessNone (a0 : Int) (w0 : (Lit.int .i64 a0).wf = true) (a1 : Int) (w1 : (Lit.int .u64 a1).wf = true) (a2 : Int) (w2 : (Lit.int .u64 a2).wf = true) (W : World) :
    Calls Try.prog 6 #[.int .i64 a0, .int .u64 a1, .int .u64 a2] W fun e w' => e = .returned (.bool true) ∧ Below W.heap.size W w' := by
  have hu := u64_of8 w1
  clear w0 w1 w2
  have x0 : 0 ≤ a1 % 32768 / 8 * 8 := by omega
  have x1 : a1 % 32768 / 8 * 8 < 32768 := by omega
  have x2 : a1 % 32768 / 8 * 8 % 8 = 0 := by omega
  go_enter Try.func6, Try.ntmps6
  go_wp2_with (fail)
  refine (ready_ok _).mono ?_
  rintro e w1 ⟨b, g, T, mb, mg, mc, vb, wb, rfl, hr1⟩
  have HR1 := Lib.hid hr1
  have hz1 : 0 < w1.heap.size := Nat.lt_of_le_of_lt (Nat.zero_le _) hr1.me.lg
  clear hr1
  go_wp2_with (fail)
  generalize a1 % 32768 / 8 * 8 = x at *
  go_wp2_with (first
    | (go_at_call 16; refine (aload_bad w1 none _ a0 x 3 hz1 (by decide) (loc_noc _ _ _ _ x0 x1 x2)).mono ?_; rintro e w2 ⟨rfl, hb2⟩; have hz2 := Nat.lt_of_lt_of_le hz1 hb2.size; have F2 := FltAt.new w2 40 (.int .i64 3) (.int .u64 x) (.bool false))
    | (go_at_call 14; refine (astore_bad _ _ none 0 x a2 3 (by simp) (by decide) (loc_nom _ _ _ _ x0 x1 x2)).mono ?_; rintro e w3 ⟨rfl, hb3⟩; obtain ⟨r0, r1, r2, rf, rl⟩ := F2.call hb3; have F3 := FltAt.new w3 40 (.int .i64 3) (.int .u64 x) (.bool true); obtain ⟨s0, s1, s2, sf, sl⟩ := F3)
    | (go_at_call 7; refine (awake8 _).mono ?_; rintro e w4 ⟨rfl, hb4⟩))
  go_ret
  exact ⟨rfl, bgo (bal (bgo (bal (bgo HR1.out.be hb2) _) hb3) _) hb4⟩
end Go.Proofs.Ytgfidbjhihignaa
