/- Chapter 7's statements: awake; the law CoresNone. -/
import Derived.Test.YtedapbliebiblaaCoM
namespace Go.Proofs.Ytedapbliebiblaa
set_option linter.unusedVariables false
set_option linter.unusedSimpArgs false
open Go.ChangeShapes Go.WideShapes Go.ChangeAt Go.RowKit Go.Shelf

theorem CoresAt.blk {w w' : World} {b g n c q : Nat} {R Q : Nat → Int} {T : Nat → Nat} {S : Nat → TS} (h : CoresAt w b g n c R Q T S) (k : BlkOnly q w w') (h1 : b ≠ q) (h2 : g ≠ q) (h3 : ∀ i, i < n → T i ≠ q) : CoresAt w' b g n c R Q T S :=
  h.of_blocks k.size (k.block b h.lb h1) (k.block g h.lg h2) fun i hi => k.block _ (h.tlb i hi).lt (h3 i hi)
/-- All of the cores lies below B. -/
structure CoresIn (B b g n : Nat) (T : Nat → Nat) : Prop where
  b : b < B
  g : g < B
  T : ∀ i, i < n → T i < B
theorem CoresAt.within {w : World} {b g n c : Nat} {R Q : Nat → Int} {T : Nat → Nat} {S : Nat → TS} (h : CoresAt w b g n c R Q T S) : CoresIn w.heap.size b g n T := ⟨h.lb, h.lg, fun i hi => (h.tlb i hi).lt⟩
theorem CoresAt.blkIn {w w' : World} {b g n c q B : Nat} {R Q : Nat → Int} {T : Nat → Nat} {S : Nat → TS} (h : CoresAt w b g n c R Q T S) (k : BlkOnly q w w') (i : CoresIn B b g n T) (hq : B ≤ q) : CoresAt w' b g n c R Q T S :=
  h.blk k (Nat.ne_of_lt (Nat.lt_of_lt_of_le i.b hq)) (Nat.ne_of_lt (Nat.lt_of_lt_of_le i.g hq)) fun j hj => Nat.ne_of_lt (Nat.lt_of_lt_of_le (i.T j hj) hq)
abbrev m775 : Nat → Int := updM (updM (updM (fun _ => 0) 0 257) 8 513) 16 775
theorem trans775 : (transF 4 m775 (setR (fun _ => -1) 0 0 0) (setR (fun _ => 0) 0 1 0) 0 ((fun _ => S0) 0)).1 = (⟨1, 0, 3, true, false⟩, false, 0) := by decide +kernel
set_option maxRecDepth 100000 in
set_option maxHeartbeats 2000000 in
theorem awake7 (W : World) : Calls Try.prog 9 #[] W fun e w' => e = .returned (.bool true) ∧ Below W.heap.size W w' := by
  have hv257 : WordI 257 := ⟨by decide, by decide⟩
  have hv513 : WordI 513 := ⟨by decide, by decide⟩
  have hv775 : WordI 775 := ⟨by decide, by decide⟩
  go_enter Try.func9, Try.ntmps9
  go_wp2_with (fail)
  refine (cnew_ok _ 2 (by decide) (by decide)).mono ?_
  rintro e w1 ⟨b, g, T, rfl, hc1, hb1, hg1, ht1, hw1⟩
  have HI := Lib.hid hc1.within
  have HC1 := Lib.hid hc1
  clear hc1
  go_wp2_with (fail)
  refine (new_ok _ 4 (by decide) (by decide)).mono ?_
  rintro e w2 ⟨mb, mg, mc, rfl, hm2, hb2, hg2, hw2⟩
  have HM2 := Lib.hid hm2
  have HC2 := Lib.hid (HC1.out.call hw2)
  have lmg := hm2.lg
  clear hm2
  go_wp2_with (first
    | (go_at_call 19; refine (cset_some _ b g 2 2 0 _ _ T _ 0 1 HC2.out (by decide) (by decide) (by decide) (by decide)).mono ?_; rintro e w3 ⟨rfl, hc3, ho3⟩; have HC3 := Lib.hid hc3; have HO3 := Lib.hid ho3; have HM3 := Lib.hid (ho3.mem HM2.out (by have := HI.out.g; omega) (by have := HI.out.g; omega)); clear hc3 ho3)
    | (go_at_call 15; with_reducible refine (store_at w3 mb mg 4 mc _ 0 0 257 HM3.out (by decide) (by decide) hv257).mono ?_; rintro e w4 ⟨rfl, hm4, ho4⟩; have HM4 := Lib.hid hm4; have HO4 := Lib.hid ho4; have HC4 := Lib.hid (HC3.out.blkIn ho4 HI.out hg2); clear hm4 ho4)
    | (go_at_call 15; with_reducible refine (store_at w4 mb mg 4 mc _ 64 8 513 HM4.out (by decide) (by decide) hv513).mono ?_; rintro e w5 ⟨rfl, hm5, ho5⟩; have HM5 := Lib.hid hm5; have HO5 := Lib.hid ho5; have HC5 := Lib.hid (HC4.out.blkIn ho5 HI.out hg2); clear hm5 ho5)
    | (go_at_call 15; with_reducible refine (store_at w5 mb mg 4 mc _ 128 16 775 HM5.out (by decide) (by decide) hv775).mono ?_; rintro e w6 ⟨rfl, hm6, ho6⟩; have HM6 := Lib.hid hm6; have HO6 := Lib.hid ho6; have HC6 := Lib.hid (HC5.out.blkIn ho6 HI.out hg2); clear hm6 ho6)
    | (go_at_call 24; refine (ctrans_ok w6 b g 2 2 0 _ _ T _ mb mg 4 mc m775 0 HC6.out (by decide) HM6.out (by decide) (by decide) (by decide)).mono ?_; rw [trans775]; rintro e w7 ⟨rfl, hc7, ho7⟩; have HC7 := Lib.hid hc7; have HO7 := Lib.hid ho7; clear hc7 ho7)
    | (go_at_call 29; refine (clen_ok _ b g 2 2 _ _ T _ (HC7.out.call (bal (Below.refl _ _) _))).mono ?_; rintro e w8 ⟨rfl, rfl⟩))
  go_ret
  have B2 := bgo hw1 hw2
  have lg3 := HC3.out.lg
  have lgw : g < w2.heap.size := HC2.out.lg
  have B3 := B2.trans (HO3.out.below hg1 lgw)
  have z3 := HO3.out.size
  have B4 := B3.trans (HO4.out.below (by have := hw1.size; omega) (by omega))
  have z4 := HO4.out.size
  have B5 := B4.trans (HO5.out.below (by have := hw1.size; omega) (by omega))
  have z5 := HO5.out.size
  have B6 := B5.trans (HO6.out.below (by have := hw1.size; omega) (by omega))
  have B7 := B6.trans (HO7.out.below (ht1 0 (by decide)) ((HC6.out.tlb 0 (by decide)).lt))
  exact ⟨rfl, bal B7 _⟩
set_option maxRecDepth 100000 in
set_option maxHeartbeats 2000000 in
theorem walk_coresNone (a0 : Int) (w0 : (Lit.int .i64 a0).wf = true) (a1 : Int) (w1 : (Lit.int .i64 a1).wf = true) (W : World) :
    Calls Try.prog 6 #[.int .i64 a0, .int .i64 a1] W fun e w' => e = .returned (.bool true) ∧ Below W.heap.size W w' := by
  clear w0 w1
  go_enter Try.func6, Try.ntmps6
  go_wp2_with (fail)
  refine (new_ok _ 1 (by decide) (by decide)).mono ?_
  rintro e w1 ⟨mb, mg, mc, rfl, hm1, hb1, hg1, hw1⟩
  clear hm1
  go_wp2_with (first
    | (go_at_call 24; refine (ctrans_nil _ a0 a1 _).mono ?_; rintro e w2 ⟨rfl, hw2⟩; obtain ⟨x0, x1, x2, x3, x4⟩ := tr_new w2 zT)
    | (go_at_call 28; refine (cregs_nil _ a0).mono ?_; rintro e w3 ⟨rfl, rfl⟩)
    | (go_at_call 19; refine (cset_nil _ a0 0 1).mono ?_; rintro e w3 ⟨rfl, rfl⟩)
    | (go_at_call 22; refine (cpref_nil _ a0 a1 _).mono ?_; rintro e w4 ⟨rfl, hw4⟩)
    | (go_at_call 23; refine (cevict_nil _ a0 0 0).mono ?_; rintro e w3 ⟨rfl, rfl⟩)
    | (go_at_call 21; refine (callsIn_wide.1 (cdropP_nil _ 1 a1)).mono ?_; rintro e w5 ⟨rfl, hw5⟩)
    | (go_at_call 27; refine (callsIn_wide.1 (cdropS_nil _ 1)).mono ?_; rintro e w6 ⟨rfl, hw6⟩)
    | (go_at_call 29; refine (clen_nil _).mono ?_; rintro e w3 ⟨rfl, rfl⟩)
    | (go_at_call 26; refine (call_nil _ a0).mono ?_; rintro e w3 ⟨rfl, rfl⟩)
    | (go_at_call 9; refine (awake7 _).mono ?_; rintro e w7 ⟨rfl, hw7⟩))
  go_ret
  exact ⟨rfl, bgo (bgo (bgo (bgo (bal (bgo hw1 hw2) _) hw4) hw5) hw6) hw7⟩
end Go.Proofs.Ytedapbliebiblaa
