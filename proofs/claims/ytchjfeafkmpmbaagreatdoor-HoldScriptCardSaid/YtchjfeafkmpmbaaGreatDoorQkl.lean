import Derived.LoopTactic
import Derived.Test.YtchjfeafkmpmbaaGreatDoorQkk
import Derived.RegionTactic
import Derived.Test.YtchjfeafkmpmbaaGreatDoorRows
import Derived.WalkKit
import Derived.ProofKit
import Derived.OpenShut
import Derived.Deep.QuietTactic
import Derived.BigQuiet
import Derived.Lib.Hide
import Derived.Laws.BitsAllLaws
import Derived.Test.YtchjfeafkmpmbaaGreatDoorFrame
namespace Go.Proofs.YtchjfeafkmpmbaaGreatDoor
set_option linter.unusedVariables false
set_option linter.unusedSimpArgs false
set_option maxRecDepth 100000
set_option maxHeartbeats 8000000
open Lib (hid)
open Go.ChangeShapes Go.WideShapes Go.ChangeAt Go.RowKit
section
namespace CX
theorem mask9_0 (m : Int) (w : World) (h2 : 0 ≤ m) (h3 : m ≤ 7) :
  Calls Tryz.prog 112 #[.int .i64 0, .int .i64 m] w fun e w' => e = .returned (.int .i64 (maskN 0 m)) ∧ w = w' := by
 have m1 := mayB_mk (show (0 : Int) ≤ 0 by decide) (by decide)
 have m2 := mayB_mk h2 h3
 obtain rfl | rfl | rfl | rfl | rfl | rfl | rfl | rfl : m = 0 ∨ m = 1 ∨ m = 2 ∨ m = 3 ∨ m = 4 ∨ m = 5 ∨ m = 6 ∨ m = 7 := by omega
 all_goals
  go_enter Tryz.func112, Tryz.ntmps112
  go_wp2_with (go_at_call 111; refine (refMay9 _ _).mono ?_; rintro e w' ⟨rfl, rfl⟩)
  refine wp_loop_rounds 4 ?_
  rw [rounds_succ]; go_wp2
  rw [rounds_succ]; go_wp2
  rw [rounds_succ]; go_wp2
  rw [rounds_succ]; go_wp2
  go_ret
  exact ⟨ret_int (by decide +kernel), rfl⟩
theorem mask9_1 (m : Int) (w : World) (h2 : 0 ≤ m) (h3 : m ≤ 7) :
  Calls Tryz.prog 112 #[.int .i64 1, .int .i64 m] w fun e w' => e = .returned (.int .i64 (maskN 1 m)) ∧ w = w' := by
 have m1 := mayB_mk (show (0 : Int) ≤ 1 by decide) (by decide)
 have m2 := mayB_mk h2 h3
 obtain rfl | rfl | rfl | rfl | rfl | rfl | rfl | rfl : m = 0 ∨ m = 1 ∨ m = 2 ∨ m = 3 ∨ m = 4 ∨ m = 5 ∨ m = 6 ∨ m = 7 := by omega
 all_goals
  go_enter Tryz.func112, Tryz.ntmps112
  go_wp2_with (go_at_call 111; refine (refMay9 _ _).mono ?_; rintro e w' ⟨rfl, rfl⟩)
  refine wp_loop_rounds 4 ?_
  rw [rounds_succ]; go_wp2
  rw [rounds_succ]; go_wp2
  rw [rounds_succ]; go_wp2
  rw [rounds_succ]; go_wp2
  go_ret
  exact ⟨ret_int (by decide +kernel), rfl⟩
theorem mask9_2 (m : Int) (w : World) (h2 : 0 ≤ m) (h3 : m ≤ 7) :
  Calls Tryz.prog 112 #[.int .i64 2, .int .i64 m] w fun e w' => e = .returned (.int .i64 (maskN 2 m)) ∧ w = w' := by
 have m1 := mayB_mk (show (0 : Int) ≤ 2 by decide) (by decide)
 have m2 := mayB_mk h2 h3
 obtain rfl | rfl | rfl | rfl | rfl | rfl | rfl | rfl : m = 0 ∨ m = 1 ∨ m = 2 ∨ m = 3 ∨ m = 4 ∨ m = 5 ∨ m = 6 ∨ m = 7 := by omega
 all_goals
  go_enter Tryz.func112, Tryz.ntmps112
  go_wp2_with (go_at_call 111; refine (refMay9 _ _).mono ?_; rintro e w' ⟨rfl, rfl⟩)
  refine wp_loop_rounds 4 ?_
  rw [rounds_succ]; go_wp2
  rw [rounds_succ]; go_wp2
  rw [rounds_succ]; go_wp2
  rw [rounds_succ]; go_wp2
  go_ret
  exact ⟨ret_int (by decide +kernel), rfl⟩
theorem mask9_3 (m : Int) (w : World) (h2 : 0 ≤ m) (h3 : m ≤ 7) :
  Calls Tryz.prog 112 #[.int .i64 3, .int .i64 m] w fun e w' => e = .returned (.int .i64 (maskN 3 m)) ∧ w = w' := by
 have m1 := mayB_mk (show (0 : Int) ≤ 3 by decide) (by decide)
 have m2 := mayB_mk h2 h3
 obtain rfl | rfl | rfl | rfl | rfl | rfl | rfl | rfl : m = 0 ∨ m = 1 ∨ m = 2 ∨ m = 3 ∨ m = 4 ∨ m = 5 ∨ m = 6 ∨ m = 7 := by omega
 all_goals
  go_enter Tryz.func112, Tryz.ntmps112
  go_wp2_with (go_at_call 111; refine (refMay9 _ _).mono ?_; rintro e w' ⟨rfl, rfl⟩)
  refine wp_loop_rounds 4 ?_
  rw [rounds_succ]; go_wp2
  rw [rounds_succ]; go_wp2
  rw [rounds_succ]; go_wp2
  rw [rounds_succ]; go_wp2
  go_ret
  exact ⟨ret_int (by decide +kernel), rfl⟩
theorem mask9_4 (m : Int) (w : World) (h2 : 0 ≤ m) (h3 : m ≤ 7) :
  Calls Tryz.prog 112 #[.int .i64 4, .int .i64 m] w fun e w' => e = .returned (.int .i64 (maskN 4 m)) ∧ w = w' := by
 have m1 := mayB_mk (show (0 : Int) ≤ 4 by decide) (by decide)
 have m2 := mayB_mk h2 h3
 obtain rfl | rfl | rfl | rfl | rfl | rfl | rfl | rfl : m = 0 ∨ m = 1 ∨ m = 2 ∨ m = 3 ∨ m = 4 ∨ m = 5 ∨ m = 6 ∨ m = 7 := by omega
 all_goals
  go_enter Tryz.func112, Tryz.ntmps112
  go_wp2_with (go_at_call 111; refine (refMay9 _ _).mono ?_; rintro e w' ⟨rfl, rfl⟩)
  refine wp_loop_rounds 4 ?_
  rw [rounds_succ]; go_wp2
  rw [rounds_succ]; go_wp2
  rw [rounds_succ]; go_wp2
  rw [rounds_succ]; go_wp2
  go_ret
  exact ⟨ret_int (by decide +kernel), rfl⟩
theorem mask9_5 (m : Int) (w : World) (h2 : 0 ≤ m) (h3 : m ≤ 7) :
  Calls Tryz.prog 112 #[.int .i64 5, .int .i64 m] w fun e w' => e = .returned (.int .i64 (maskN 5 m)) ∧ w = w' := by
 have m1 := mayB_mk (show (0 : Int) ≤ 5 by decide) (by decide)
 have m2 := mayB_mk h2 h3
 obtain rfl | rfl | rfl | rfl | rfl | rfl | rfl | rfl : m = 0 ∨ m = 1 ∨ m = 2 ∨ m = 3 ∨ m = 4 ∨ m = 5 ∨ m = 6 ∨ m = 7 := by omega
 all_goals
  go_enter Tryz.func112, Tryz.ntmps112
  go_wp2_with (go_at_call 111; refine (refMay9 _ _).mono ?_; rintro e w' ⟨rfl, rfl⟩)
  refine wp_loop_rounds 4 ?_
  rw [rounds_succ]; go_wp2
  rw [rounds_succ]; go_wp2
  rw [rounds_succ]; go_wp2
  rw [rounds_succ]; go_wp2
  go_ret
  exact ⟨ret_int (by decide +kernel), rfl⟩
theorem mask9_6 (m : Int) (w : World) (h2 : 0 ≤ m) (h3 : m ≤ 7) :
  Calls Tryz.prog 112 #[.int .i64 6, .int .i64 m] w fun e w' => e = .returned (.int .i64 (maskN 6 m)) ∧ w = w' := by
 have m1 := mayB_mk (show (0 : Int) ≤ 6 by decide) (by decide)
 have m2 := mayB_mk h2 h3
 obtain rfl | rfl | rfl | rfl | rfl | rfl | rfl | rfl : m = 0 ∨ m = 1 ∨ m = 2 ∨ m = 3 ∨ m = 4 ∨ m = 5 ∨ m = 6 ∨ m = 7 := by omega
 all_goals
  go_enter Tryz.func112, Tryz.ntmps112
  go_wp2_with (go_at_call 111; refine (refMay9 _ _).mono ?_; rintro e w' ⟨rfl, rfl⟩)
  refine wp_loop_rounds 4 ?_
  rw [rounds_succ]; go_wp2
  rw [rounds_succ]; go_wp2
  rw [rounds_succ]; go_wp2
  rw [rounds_succ]; go_wp2
  go_ret
  exact ⟨ret_int (by decide +kernel), rfl⟩
theorem mask9_7 (m : Int) (w : World) (h2 : 0 ≤ m) (h3 : m ≤ 7) :
  Calls Tryz.prog 112 #[.int .i64 7, .int .i64 m] w fun e w' => e = .returned (.int .i64 (maskN 7 m)) ∧ w = w' := by
 have m1 := mayB_mk (show (0 : Int) ≤ 7 by decide) (by decide)
 have m2 := mayB_mk h2 h3
 obtain rfl | rfl | rfl | rfl | rfl | rfl | rfl | rfl : m = 0 ∨ m = 1 ∨ m = 2 ∨ m = 3 ∨ m = 4 ∨ m = 5 ∨ m = 6 ∨ m = 7 := by omega
 all_goals
  go_enter Tryz.func112, Tryz.ntmps112
  go_wp2_with (go_at_call 111; refine (refMay9 _ _).mono ?_; rintro e w' ⟨rfl, rfl⟩)
  refine wp_loop_rounds 4 ?_
  rw [rounds_succ]; go_wp2
  rw [rounds_succ]; go_wp2
  rw [rounds_succ]; go_wp2
  rw [rounds_succ]; go_wp2
  go_ret
  exact ⟨ret_int (by decide +kernel), rfl⟩
theorem mask9 (r m : Int) (w : World) (h0 : 0 ≤ r) (h1 : r ≤ 7) (h2 : 0 ≤ m) (h3 : m ≤ 7) :
  Calls Tryz.prog 112 #[.int .i64 r, .int .i64 m] w fun e w' => e = .returned (.int .i64 (maskN r m)) ∧ w = w' := by
 obtain rfl | rfl | rfl | rfl | rfl | rfl | rfl | rfl : r = 0 ∨ r = 1 ∨ r = 2 ∨ r = 3 ∨ r = 4 ∨ r = 5 ∨ r = 6 ∨ r = 7 := by omega
 ·exact mask9_0 m w h2 h3
 ·exact mask9_1 m w h2 h3
 ·exact mask9_2 m w h2 h3
 ·exact mask9_3 m w h2 h3
 ·exact mask9_4 m w h2 h3
 ·exact mask9_5 m w h2 h3
 ·exact mask9_6 m w h2 h3
 ·exact mask9_7 m w h2 h3
abbrev zcap : Value := capV 0 0 0 0 0 0 0 0
theorem mayB_of {m : Int} (h : mayB m = true) : 0 ≤ m ∧ m ≤ 7 := of_decide_eq_true h
theorem cap_c {a b c d e f g h : Int} (hx : capB a b c d e f g h = true) (ha : a = 3 ∨ a = 8) : 0 ≤ c ∧ c ≤ 7 := by
 rcases ha with rfl | rfl
 ·simp [capB] at hx; omega
 ·simp [capB] at hx; exact mayB_of hx.1.1.2
theorem mask_key : ∀ r : Nat, r < 8 → ∀ m : Nat, m < 8 → 0 ≤ maskN r m ∧ maskN r m ≤ 7 := by decide +kernel
theorem mask_bd {r m : Int} (h0 : 0 ≤ r) (h1 : r ≤ 7) (h2 : 0 ≤ m) (h3 : m ≤ 7) : 0 ≤ maskN r m ∧ maskN r m ≤ 7 := by
 obtain ⟨a, rfl⟩ := Int.eq_ofNat_of_zero_le h0
 obtain ⟨b, rfl⟩ := Int.eq_ofNat_of_zero_le h2
 exact mask_key a (by omega) b (by omega)
theorem copy_bad1 (a b c d e f g h m : Int) (W : World) (hT : TabG W) (e1 : e ≤ 9223372036854775807) (hx : capB a b c d e f g h = false) :
  Calls Tryz.prog 63 #[capV a b c d e f g h, .int .i64 m] W fun r W' => r = .returned (.tuple #[zcap, .int .i64 2]) ∧ Below W.heap.size W W' := by
 have HX := hid hx
 clear hx
 all_goals
  go_enter Tryz.func63, Tryz.ntmps63
  go_wp2_with (first
   | (go_at_call 15; refine (capMay _ _ _ _ _ _ _ _ _ (by exact hT.call (by repeat (first | with_reducible exact Below.refl _ _ | with_reducible assumption | with_reducible refine below_drewN ?_ _ | with_reducible refine Below.drew ?_ | with_reducible refine bal ?_ _ | with_reducible refine bgo ?_ (by with_reducible assumption) | refine Below.setCell ?_ (by first | exact Nat.le_refl _ | (simp; done) | (simp; omega)) _))) e1).mono ?_; rw [HX.out]; rintro r w1 ⟨rfl, hb1⟩; obtain ⟨hc1, hf1⟩ := bcell hb1; have hz1 : W.heap.size + 1 < w1.heap.size := (by have := hb1.size; simp at this; omega); have hz0 : W.heap.size < w1.heap.size := (by omega))
   | (go_at_call 60; refine (may_any _ _).mono ?_; rw [HM.out]; rintro r w2 ⟨rfl, rfl⟩))
  all_goals
   exact bodyPost_ret (v := .tuple #[zcap, .int .i64 2]) (by simp [results, Tryz.results63, go_sem, hc1, hz1]) rfl ⟨rfl, (by repeat (first | with_reducible exact Below.refl _ _ | with_reducible assumption | with_reducible refine below_drewN ?_ _ | with_reducible refine Below.drew ?_ | with_reducible refine bal ?_ _ | with_reducible refine bgo ?_ (by with_reducible assumption) | refine Below.setCell ?_ (by first | exact Nat.le_refl _ | (simp; done) | (simp; omega)) _))⟩
theorem copy_bad2 (a b c d e f g h m : Int) (W : World) (hT : TabG W) (e1 : e ≤ 9223372036854775807) (hx : capB a b c d e f g h = true) (hm : mayB m = false) :
  Calls Tryz.prog 63 #[capV a b c d e f g h, .int .i64 m] W fun r W' => r = .returned (.tuple #[zcap, .int .i64 2]) ∧ Below W.heap.size W W' := by
 have HX := hid hx
 have HM := hid hm
 clear hx hm
 all_goals
  go_enter Tryz.func63, Tryz.ntmps63
  go_wp2_with (first
   | (go_at_call 15; refine (capMay _ _ _ _ _ _ _ _ _ (by exact hT.call (by repeat (first | with_reducible exact Below.refl _ _ | with_reducible assumption | with_reducible refine below_drewN ?_ _ | with_reducible refine Below.drew ?_ | with_reducible refine bal ?_ _ | with_reducible refine bgo ?_ (by with_reducible assumption) | refine Below.setCell ?_ (by first | exact Nat.le_refl _ | (simp; done) | (simp; omega)) _))) e1).mono ?_; rw [HX.out]; rintro r w1 ⟨rfl, hb1⟩; obtain ⟨hc1, hf1⟩ := bcell hb1; have hz1 : W.heap.size + 1 < w1.heap.size := (by have := hb1.size; simp at this; omega); have hz0 : W.heap.size < w1.heap.size := (by omega))
   | (go_at_call 60; refine (may_any _ _).mono ?_; rw [HM.out]; rintro r w2 ⟨rfl, rfl⟩))
  all_goals
   exact bodyPost_ret (v := .tuple #[zcap, .int .i64 2]) (by simp [results, Tryz.results63, go_sem, hc1, hz1]) rfl ⟨rfl, (by repeat (first | with_reducible exact Below.refl _ _ | with_reducible assumption | with_reducible refine below_drewN ?_ _ | with_reducible refine Below.drew ?_ | with_reducible refine bal ?_ _ | with_reducible refine bgo ?_ (by with_reducible assumption) | refine Below.setCell ?_ (by first | exact Nat.le_refl _ | (simp; done) | (simp; omega)) _))⟩
theorem copy_k0 (a b c d e f g h m : Int) (W : World) (hT : TabG W) (e1 : e ≤ 9223372036854775807) (hx : capB a b c d e f g h = true) (hm : mayB m = true) (ha : a = 0) :
  Calls Tryz.prog 63 #[capV a b c d e f g h, .int .i64 m] W fun r W' => r = .returned (.tuple #[zcap, .int .i64 10]) ∧ Below W.heap.size W W' := by
 have HX := hid hx
 have HM := hid hm
 clear hx hm
 subst ha
 all_goals
  go_enter Tryz.func63, Tryz.ntmps63
  go_wp2_with (first
   | (go_at_call 15; refine (capMay _ _ _ _ _ _ _ _ _ (by exact hT.call (by repeat (first | with_reducible exact Below.refl _ _ | with_reducible assumption | with_reducible refine below_drewN ?_ _ | with_reducible refine Below.drew ?_ | with_reducible refine bal ?_ _ | with_reducible refine bgo ?_ (by with_reducible assumption) | refine Below.setCell ?_ (by first | exact Nat.le_refl _ | (simp; done) | (simp; omega)) _))) e1).mono ?_; rw [HX.out]; rintro r w1 ⟨rfl, hb1⟩; obtain ⟨hc1, hf1⟩ := bcell hb1; have hz1 : W.heap.size + 1 < w1.heap.size := (by have := hb1.size; simp at this; omega); have hz0 : W.heap.size < w1.heap.size := (by omega))
   | (go_at_call 60; refine (may_any _ _).mono ?_; rw [HM.out]; rintro r w2 ⟨rfl, rfl⟩))
  all_goals
   exact bodyPost_ret (v := .tuple #[zcap, .int .i64 10]) (by simp [results, Tryz.results63, go_sem, hc1, hz1]) rfl ⟨rfl, (by repeat (first | with_reducible exact Below.refl _ _ | with_reducible assumption | with_reducible refine below_drewN ?_ _ | with_reducible refine Below.drew ?_ | with_reducible refine bal ?_ _ | with_reducible refine bgo ?_ (by with_reducible assumption) | refine Below.setCell ?_ (by first | exact Nat.le_refl _ | (simp; done) | (simp; omega)) _))⟩
theorem copy_k1 (a b c d e f g h m : Int) (W : World) (hT : TabG W) (e1 : e ≤ 9223372036854775807) (hx : capB a b c d e f g h = true) (hm : mayB m = true) (ha : a = 1 ∨ a = 7) :
  Calls Tryz.prog 63 #[capV a b c d e f g h, .int .i64 m] W fun r W' => r = .returned (.tuple #[zcap, .int .i64 8]) ∧ Below W.heap.size W W' := by
 have HX := hid hx
 have HM := hid hm
 clear hx hm
 rcases ha with rfl | rfl
 all_goals
  go_enter Tryz.func63, Tryz.ntmps63
  go_wp2_with (first
   | (go_at_call 15; refine (capMay _ _ _ _ _ _ _ _ _ (by exact hT.call (by repeat (first | with_reducible exact Below.refl _ _ | with_reducible assumption | with_reducible refine below_drewN ?_ _ | with_reducible refine Below.drew ?_ | with_reducible refine bal ?_ _ | with_reducible refine bgo ?_ (by with_reducible assumption) | refine Below.setCell ?_ (by first | exact Nat.le_refl _ | (simp; done) | (simp; omega)) _))) e1).mono ?_; rw [HX.out]; rintro r w1 ⟨rfl, hb1⟩; obtain ⟨hc1, hf1⟩ := bcell hb1; have hz1 : W.heap.size + 1 < w1.heap.size := (by have := hb1.size; simp at this; omega); have hz0 : W.heap.size < w1.heap.size := (by omega))
   | (go_at_call 60; refine (may_any _ _).mono ?_; rw [HM.out]; rintro r w2 ⟨rfl, rfl⟩))
  all_goals
   exact bodyPost_ret (v := .tuple #[zcap, .int .i64 8]) (by simp [results, Tryz.results63, go_sem, hc1, hz1]) rfl ⟨rfl, (by repeat (first | with_reducible exact Below.refl _ _ | with_reducible assumption | with_reducible refine below_drewN ?_ _ | with_reducible refine Below.drew ?_ | with_reducible refine bal ?_ _ | with_reducible refine bgo ?_ (by with_reducible assumption) | refine Below.setCell ?_ (by first | exact Nat.le_refl _ | (simp; done) | (simp; omega)) _))⟩
theorem copy_rest (a b c d e f g h m : Int) (W : World) (hT : TabG W) (e1 : e ≤ 9223372036854775807) (hx : capB a b c d e f g h = true) (hm : mayB m = true) (ha : a = 2 ∨ a = 4 ∨ a = 5 ∨ a = 6 ∨ a = 9) :
  Calls Tryz.prog 63 #[capV a b c d e f g h, .int .i64 m] W fun r W' => r = .returned (.tuple #[capV a b c d e f g h, .int .i64 0]) ∧ Below W.heap.size W W' := by
 have HX := hid hx
 have HM := hid hm
 clear hx hm
 rcases ha with rfl | rfl | rfl | rfl | rfl
 all_goals
  go_enter Tryz.func63, Tryz.ntmps63
  go_wp2_with (first
   | (go_at_call 15; refine (capMay _ _ _ _ _ _ _ _ _ (by exact hT.call (by repeat (first | with_reducible exact Below.refl _ _ | with_reducible assumption | with_reducible refine below_drewN ?_ _ | with_reducible refine Below.drew ?_ | with_reducible refine bal ?_ _ | with_reducible refine bgo ?_ (by with_reducible assumption) | refine Below.setCell ?_ (by first | exact Nat.le_refl _ | (simp; done) | (simp; omega)) _))) e1).mono ?_; rw [HX.out]; rintro r w1 ⟨rfl, hb1⟩; obtain ⟨hc1, hf1⟩ := bcell hb1; have hz1 : W.heap.size + 1 < w1.heap.size := (by have := hb1.size; simp at this; omega); have hz0 : W.heap.size < w1.heap.size := (by omega))
   | (go_at_call 60; refine (may_any _ _).mono ?_; rw [HM.out]; rintro r w2 ⟨rfl, rfl⟩))
  all_goals
   exact bodyPost_ret (v := .tuple #[capV _ b c d e f g h, .int .i64 0]) (by simp [results, Tryz.results63, go_sem, hc1, hz1]) rfl ⟨rfl, (by repeat (first | with_reducible exact Below.refl _ _ | with_reducible assumption | with_reducible refine below_drewN ?_ _ | with_reducible refine Below.drew ?_ | with_reducible refine bal ?_ _ | with_reducible refine bgo ?_ (by with_reducible assumption) | refine Below.setCell ?_ (by first | exact Nat.le_refl _ | (simp; done) | (simp; omega)) _))⟩
theorem copy_k3n (a b c d e f g h m : Int) (W : World) (hT : TabG W) (e1 : e ≤ 9223372036854775807) (hx : capB a b c d e f g h = true) (hm : mayB m = true) (ha : a = 3) (hn : maskN c m = 0) :
  Calls Tryz.prog 63 #[capV a b c d e f g h, .int .i64 m] W fun r W' => r = .returned (.tuple #[zcap, .int .i64 9]) ∧ Below W.heap.size W W' := by
 obtain ⟨c0, c1⟩ := cap_c hx (.inl ha)
 obtain ⟨m0, m1⟩ := mayB_of hm
 have HX := hid hx
 have HM := hid hm
 clear hx hm
 subst ha
 have HN := hid hn
 clear hn
 all_goals
  go_enter Tryz.func63, Tryz.ntmps63
  go_wp2_with (first
   | (go_at_call 15; refine (capMay _ _ _ _ _ _ _ _ _ (by exact hT.call (by repeat (first | with_reducible exact Below.refl _ _ | with_reducible assumption | with_reducible refine below_drewN ?_ _ | with_reducible refine Below.drew ?_ | with_reducible refine bal ?_ _ | with_reducible refine bgo ?_ (by with_reducible assumption) | refine Below.setCell ?_ (by first | exact Nat.le_refl _ | (simp; done) | (simp; omega)) _))) e1).mono ?_; rw [HX.out]; rintro r w1 ⟨rfl, hb1⟩; obtain ⟨hc1, hf1⟩ := bcell hb1; have hz1 : W.heap.size + 1 < w1.heap.size := (by have := hb1.size; simp at this; omega); have hz0 : W.heap.size < w1.heap.size := (by omega))
   | (go_at_call 60; refine (may_any _ _).mono ?_; rw [HM.out]; rintro r w2 ⟨rfl, rfl⟩)
   | (go_at_call 99; refine (kept_any _ _ _ _ _ _ _ _ _ _ c0 c1 m0 m1).mono ?_; rw [HN.out]; rintro r w3 ⟨rfl, hb3⟩; obtain ⟨hc3, hf3⟩ := bcell hb3; have hy3 := hb3.size; simp at hy3; have hz30 : W.heap.size < w3.heap.size := (by omega); have hz31 : W.heap.size + 1 < w3.heap.size := (by omega); have hz32 : w1.heap.size < w3.heap.size := (by omega); have hn1 : W.heap.size + 1 ≠ w1.heap.size := (by omega); have hn2 : w1.heap.size ≠ W.heap.size + 1 := (by omega); clear hy3))
  all_goals
   exact bodyPost_ret (v := .tuple #[zcap, .int .i64 9]) (by simp [results, Tryz.results63, go_sem, hc1, hz1, hc3, hz0, hz31, hz32, hn1, hn2]) rfl ⟨rfl, (by repeat (first | with_reducible exact Below.refl _ _ | with_reducible assumption | with_reducible refine below_drewN ?_ _ | with_reducible refine Below.drew ?_ | with_reducible refine bal ?_ _ | with_reducible refine bgo ?_ (by with_reducible assumption) | refine Below.setCell ?_ (by first | exact Nat.le_refl _ | (simp; done) | (simp; omega)) _))⟩
theorem copy_k3y (a b c d e f g h m : Int) (W : World) (hT : TabG W) (e1 : e ≤ 9223372036854775807) (hx : capB a b c d e f g h = true) (hm : mayB m = true) (ha : a = 3) (hn : maskN c m ≠ 0) :
  Calls Tryz.prog 63 #[capV a b c d e f g h, .int .i64 m] W fun r W' => r = .returned (.tuple #[capV a b (maskN c m) d e f 0 0, .int .i64 0]) ∧ Below W.heap.size W W' := by
 obtain ⟨c0, c1⟩ := cap_c hx (.inl ha)
 obtain ⟨m0, m1⟩ := mayB_of hm
 have HX := hid hx
 have HM := hid hm
 clear hx hm
 subst ha
 have hk := mask_bd c0 c1 m0 m1
 generalize hq : maskN c m = q at *
 have HN := hid hq
 clear hq
 have hn' : (q == 0) = false := beq_eq_false_iff_ne.2 hn
 clear hn
 all_goals
  go_enter Tryz.func63, Tryz.ntmps63
  go_wp2_with (first
   | (go_at_call 15; refine (capMay _ _ _ _ _ _ _ _ _ (by exact hT.call (by repeat (first | with_reducible exact Below.refl _ _ | with_reducible assumption | with_reducible refine below_drewN ?_ _ | with_reducible refine Below.drew ?_ | with_reducible refine bal ?_ _ | with_reducible refine bgo ?_ (by with_reducible assumption) | refine Below.setCell ?_ (by first | exact Nat.le_refl _ | (simp; done) | (simp; omega)) _))) e1).mono ?_; rw [HX.out]; rintro r w1 ⟨rfl, hb1⟩; obtain ⟨hc1, hf1⟩ := bcell hb1; have hz1 : W.heap.size + 1 < w1.heap.size := (by have := hb1.size; simp at this; omega); have hz0 : W.heap.size < w1.heap.size := (by omega))
   | (go_at_call 60; refine (may_any _ _).mono ?_; rw [HM.out]; rintro r w2 ⟨rfl, rfl⟩)
   | (go_at_call 99; refine (kept_any _ _ _ _ _ _ _ _ _ _ c0 c1 m0 m1).mono ?_; rw [HN.out]; rintro r w3 ⟨rfl, hb3⟩; obtain ⟨hc3, hf3⟩ := bcell hb3; have hy3 := hb3.size; simp at hy3; have hz30 : W.heap.size < w3.heap.size := (by omega); have hz31 : W.heap.size + 1 < w3.heap.size := (by omega); have hz32 : w1.heap.size < w3.heap.size := (by omega); have hn1 : W.heap.size + 1 ≠ w1.heap.size := (by omega); have hn2 : w1.heap.size ≠ W.heap.size + 1 := (by omega); clear hy3))
  all_goals
   exact bodyPost_ret (v := .tuple #[capV _ b q d e f 0 0, .int .i64 0]) (by simp [results, Tryz.results63, go_sem, hc1, hz1, hc3, hz0, hz31, hz32, hn1, hn2]) rfl ⟨rfl, (by repeat (first | with_reducible exact Below.refl _ _ | with_reducible assumption | with_reducible refine below_drewN ?_ _ | with_reducible refine Below.drew ?_ | with_reducible refine bal ?_ _ | with_reducible refine bgo ?_ (by with_reducible assumption) | refine Below.setCell ?_ (by first | exact Nat.le_refl _ | (simp; done) | (simp; omega)) _))⟩
theorem copy_k8 (a b c d e f g h m : Int) (W : World) (hT : TabG W) (e1 : e ≤ 9223372036854775807) (hx : capB a b c d e f g h = true) (hm : mayB m = true) (ha : a = 8) :
  Calls Tryz.prog 63 #[capV a b c d e f g h, .int .i64 m] W fun r W' => r = .returned (.tuple #[capV a b (maskN c m) d e f g h, .int .i64 0]) ∧ Below W.heap.size W W' := by
 obtain ⟨c0, c1⟩ := cap_c hx (.inr ha)
 obtain ⟨m0, m1⟩ := mayB_of hm
 have HX := hid hx
 have HM := hid hm
 clear hx hm
 subst ha
 generalize hq : maskN c m = q at *
 have HN := hid hq
 clear hq
 all_goals
  go_enter Tryz.func63, Tryz.ntmps63
  go_wp2_with (first
   | (go_at_call 15; refine (capMay _ _ _ _ _ _ _ _ _ (by exact hT.call (by repeat (first | with_reducible exact Below.refl _ _ | with_reducible assumption | with_reducible refine below_drewN ?_ _ | with_reducible refine Below.drew ?_ | with_reducible refine bal ?_ _ | with_reducible refine bgo ?_ (by with_reducible assumption) | refine Below.setCell ?_ (by first | exact Nat.le_refl _ | (simp; done) | (simp; omega)) _))) e1).mono ?_; rw [HX.out]; rintro r w1 ⟨rfl, hb1⟩; obtain ⟨hc1, hf1⟩ := bcell hb1; have hz1 : W.heap.size + 1 < w1.heap.size := (by have := hb1.size; simp at this; omega); have hz0 : W.heap.size < w1.heap.size := (by omega))
   | (go_at_call 60; refine (may_any _ _).mono ?_; rw [HM.out]; rintro r w2 ⟨rfl, rfl⟩)
   | (go_at_call 99; refine (kept_any _ _ _ _ _ _ _ _ _ _ c0 c1 m0 m1).mono ?_; rw [HN.out]; rintro r w3 ⟨rfl, hb3⟩; obtain ⟨hc3, hf3⟩ := bcell hb3; have hy3 := hb3.size; simp at hy3; have hz30 : W.heap.size < w3.heap.size := (by omega); have hz31 : W.heap.size + 1 < w3.heap.size := (by omega); have hz32 : w1.heap.size < w3.heap.size := (by omega); have hn1 : W.heap.size + 1 ≠ w1.heap.size := (by omega); have hn2 : w1.heap.size ≠ W.heap.size + 1 := (by omega); clear hy3))
  all_goals
   exact bodyPost_ret (v := .tuple #[capV _ b q d e f g h, .int .i64 0]) (by simp [results, Tryz.results63, go_sem, hc1, hz1, hc3, hz0, hz31, hz32, hn1, hn2]) rfl ⟨rfl, (by repeat (first | with_reducible exact Below.refl _ _ | with_reducible assumption | with_reducible refine below_drewN ?_ _ | with_reducible refine Below.drew ?_ | with_reducible refine bal ?_ _ | with_reducible refine bgo ?_ (by with_reducible assumption) | refine Below.setCell ?_ (by first | exact Nat.le_refl _ | (simp; done) | (simp; omega)) _))⟩
end CX
end
section
namespace Wd
theorem ret_bool {a b : Bool} (h : a = b) : Ending.returned (.bool a) = .returned (.bool b) := by rw [h]
theorem ret_int {k : IntKind} {a b : Int} (h : a = b) : Ending.returned (.int k a) = .returned (.int k b) := by rw [h]
def onesN (n : Int) : Int := if n ≤ 0 then 0 else if 64 ≤ n then 18446744073709551615 else 2 ^ n.toNat - 1
theorem wrap_pow (k : Nat) (h : k < 64) : IntKind.u64.wrap (IntKind.u64.wrap (2 ^ k) - 1) = 2 ^ k - 1 := by
 have h1 : (2 : Int) ^ k < 18446744073709551616 := by
  have : (2 : Nat) ^ k < 2 ^ 64 := Nat.pow_lt_pow_right (by omega) h
  have e : ((2 ^ k : Nat) : Int) = (2 : Int) ^ k := by simp
  omega
 have h2 : (1 : Int) ≤ 2 ^ k := by
  have : 1 ≤ (2 : Nat) ^ k := Nat.one_le_two_pow
  have e : ((2 ^ k : Nat) : Int) = (2 : Int) ^ k := by simp
  omega
 rw [IntWalk.u64_in (2 ^ k) (by omega), IntWalk.u64_in _ (by omega)]
theorem same_q {P : Program} {f : FuncId} {args : Array Value} {w : World} {v : Value} (h : Calls P f args w fun e w' => e = .returned v ∧ w = w') :
  Calls P f args w fun e w' => e = .returned v ∧ w' = w := h.mono fun _ _ ⟨a, b⟩ => ⟨a, b.symm⟩
theorem ones_any (n : Int) (w : World) :
  Calls Tryz.prog 120 #[.int .i64 n] w fun e w' => e = .returned (.int .u64 (onesN n)) ∧ w = w' := by
 go_enter Tryz.func120, Tryz.ntmps120
 go_wp2
 all_goals go_ret
 all_goals refine ⟨ret_int ?_, rfl⟩
 ·unfold onesN; rw [if_pos ‹_›]
 ·unfold onesN; rw [if_neg (by omega), if_pos ‹_›]
 ·unfold onesN; rw [if_neg (by omega), if_neg (by omega)]; exact wrap_pow _ (by omega)
theorem ones_toNat (n : Int) (h1 : 1 ≤ n) (h2 : n ≤ 64) : onesN n = ((2 ^ n.toNat - 1 : Nat) : Int) := by
 have hp : 1 ≤ (2 : Nat) ^ n.toNat := Nat.one_le_two_pow
 have e : ((2 ^ n.toNat : Nat) : Int) = (2 : Int) ^ n.toNat := by simp
 unfold onesN
 rw [if_neg (by omega)]
 by_cases h : 64 ≤ n
 ·obtain rfl : n = 64 := by omega
  simp
 ·rw [if_neg h]; omega
theorem and_ones (x : Nat) (n : Int) (hx : x < 18446744073709551616) (h1 : 1 ≤ n) (h2 : n ≤ 64) : bits BinOp.and IntKind.u64 (x : Int) (onesN n) = ((x % 2 ^ n.toNat : Nat) : Int) := by
 have hlt : 2 ^ n.toNat - 1 < 18446744073709551616 := by
  have : (2 : Nat) ^ n.toNat ≤ 2 ^ 64 := Nat.pow_le_pow_right (by decide) (by omega)
  have e : (2 : Nat) ^ 64 = 18446744073709551616 := by decide
  have hp : 1 ≤ (2 : Nat) ^ n.toNat := Nat.one_le_two_pow
  omega
 rw [ones_toNat n h1 h2, u64_and_nat x _ hx hlt, Nat.and_two_pow_sub_one_eq_mod]
end Wd
end
section
namespace CX
def capAt (w : World) (k : Nat) (a b c d e f g h : Int) : Prop :=
 w.cell? ⟨k, 0, none⟩ = some (.int .i64 a) ∧ w.cell? ⟨k, 1, none⟩ = some (.int .i64 b) ∧ w.cell? ⟨k, 2, none⟩ = some (.int .i64 c) ∧ w.cell? ⟨k, 3, none⟩ = some (.int .u64 d) ∧ w.cell? ⟨k, 4, none⟩ = some (.int .i64 e) ∧ w.cell? ⟨k, 5, none⟩ = some (.int .i64 f) ∧ w.cell? ⟨k, 6, none⟩ = some (.int .i64 g) ∧ w.cell? ⟨k, 7, none⟩ = some (.int .i64 h)
theorem capAt.kept {n k : Nat} {w w' : World} {a b c d e f g h : Int} (q : capAt w k a b c d e f g h) (hk : k < n) (h' : Kept n w w') : capAt w' k a b c d e f g h :=
 ⟨h'.cell hk q.1, h'.cell hk q.2.1, h'.cell hk q.2.2.1, h'.cell hk q.2.2.2.1, h'.cell hk q.2.2.2.2.1, h'.cell hk q.2.2.2.2.2.1, h'.cell hk q.2.2.2.2.2.2.1, h'.cell hk q.2.2.2.2.2.2.2⟩
theorem capAt_new (w : World) (T : TypeId) (a b c d e f g h : Int) : capAt (w.alloc (.cells #[.int .i64 a, .int .i64 b, .int .i64 c, .int .u64 d, .int .i64 e, .int .i64 f, .int .i64 g, .int .i64 h] T)) w.heap.size a b c d e f g h := by
 refine ⟨?_, ?_, ?_, ?_, ?_, ?_, ?_, ?_⟩
 all_goals simp
theorem capAt.call {k : Nat} {w w' : World} {a b c d e f g h : Int} (q : capAt w k a b c d e f g h) (hk : k < w.heap.size) (hb : Below w.heap.size w w') : capAt w' k a b c d e f g h :=
 q.kept hk ⟨hb, hb.size⟩
theorem capAt.alloc {k : Nat} {w : World} {a b c d e f g h : Int} (q : capAt w k a b c d e f g h) (hk : k < w.heap.size) (o : Obj) : capAt (w.alloc o) k a b c d e f g h :=
 q.kept hk ((Kept.refl (Nat.le_refl _)).alloc o)
theorem badged_hi (a b c d e f g h n : Int) (W : World) (hn : 16777215 < n) : Calls Tryz.prog 100 #[capV a b c d e f g h, .int .u64 n] W fun r W' => r = .returned (.tuple #[zcap, .int .i64 3]) ∧ Below W.heap.size W W' := by
 go_enter Tryz.func100, Tryz.ntmps100
 go_wp2
 exact bodyPost_ret (v := .tuple #[zcap, .int .i64 3]) (by simp [results, Tryz.results100, go_sem]) rfl ⟨rfl, bal (bal (Below.refl _ _) _) _⟩
theorem badged_had (a b c d e f g h n : Int) (W : World) (hn : n ≤ 16777215) (hd : d ≠ 0) : Calls Tryz.prog 100 #[capV a b c d e f g h, .int .u64 n] W fun r W' => r = .returned (.tuple #[zcap, .int .i64 9]) ∧ Below W.heap.size W W' := by
 have hd' : (d == 0) = false := beq_eq_false_iff_ne.2 hd
 have hd'' : (d != 0) = true := bne_iff_ne.2 hd
 go_enter Tryz.func100, Tryz.ntmps100
 go_wp2
 exact bodyPost_ret (v := .tuple #[zcap, .int .i64 9]) (by simp [results, Tryz.results100, go_sem]) rfl ⟨rfl, bal (bal (Below.refl _ _) _) _⟩
theorem badged_yes (a b c e f g h n : Int) (W : World) (hn : n ≤ 16777215) : Calls Tryz.prog 100 #[capV a b c 0 e f g h, .int .u64 n] W fun r W' => r = .returned (.tuple #[capV a b c n e f g h, .int .i64 0]) ∧ Below W.heap.size W W' := by
 go_enter Tryz.func100, Tryz.ntmps100
 go_wp2
 exact bodyPost_ret (v := .tuple #[capV a b c n e f g h, .int .i64 0]) (by simp [results, Tryz.results100, go_sem]) rfl ⟨rfl, bal (bal (Below.refl _ _) _) _⟩
theorem guarded_hi (a b c d e f g h : Int) (n : Nat) (W : World) (hT : TabG W) (hn : n < 2 ^ 64) (hf : fitsB n 16 = false) : Calls Tryz.prog 101 #[capV a b c d e f g h, .int .u64 n] W fun r W' => r = .returned (.tuple #[zcap, .int .i64 3]) ∧ Below W.heap.size W W' := by
 go_enter Tryz.func101, Tryz.ntmps101
 go_wp2_with (first | (go_at_call 98; refine (fits_any n 16 _ hn (hT.call (bal (bal (Below.refl _ _) _) _)).1 (hT.call (bal (bal (Below.refl _ _) _) _)).2).mono ?_; rw [hf]; rintro x w1 ⟨rfl, hb1⟩; obtain ⟨hc1, hf1⟩ := bcell hb1; have hz1 : W.heap.size + 1 < w1.heap.size := (by have := hb1.size; simp at this; omega)))
 exact bodyPost_ret (v := .tuple #[zcap, .int .i64 3]) (by simp [results, Tryz.results101, go_sem, hc1]) rfl ⟨rfl, (by repeat (first | with_reducible exact Below.refl _ _ | with_reducible assumption | with_reducible refine bal ?_ _ | with_reducible refine bgo ?_ (by with_reducible assumption) | refine Below.setCell ?_ (by first | exact Nat.le_refl _ | (simp; done) | (simp; omega)) _))⟩
theorem guarded_no (a b c d e f g h : Int) (n : Nat) (W : World) (hT : TabG W) (hn : n < 65536) (hf : fitsB n 16 = true) (hk : capB a b c d (n % 4096) (n / 4096) g h = false) : Calls Tryz.prog 101 #[capV a b c d e f g h, .int .u64 n] W fun r W' => r = .returned (.tuple #[zcap, .int .i64 3]) ∧ Below W.heap.size W W' := by
 have hn' : n < 2 ^ 64 := by omega
 have h12 : Wd.onesN 12 = 4095 := by decide
 have hb := Wd.and_ones n 12 (by omega) (by decide) (by decide)
 rw [h12] at hb
 have HK := hid hk
 clear hk
 have u1 : ((n : Int) % 4096) ≤ 9223372036854775807 := by omega
 have q0 := ((capAt_new W 33 a b c d e f g h).alloc (by simp) (.cells #[.int .i64 0, .int .i64 0, .int .i64 0, .int .u64 0, .int .i64 0, .int .i64 0, .int .i64 0, .int .i64 0] 33))
 have Q0 := hid q0
 clear q0
 go_enter Tryz.func101, Tryz.ntmps101
 go_wp2_with (first
  | (go_at_call 98; refine (fits_any n 16 _ hn' (hT.call (bal (bal (Below.refl _ _) _) _)).1 (hT.call (bal (bal (Below.refl _ _) _) _)).2).mono ?_; rw [hf]; rintro x w1 ⟨rfl, hb1⟩; have hz1 : W.heap.size + 1 < w1.heap.size := (by have := hb1.size; simp at this; omega); have hz0 : W.heap.size < w1.heap.size := (by omega); obtain ⟨q0, q1, q2, q3, q4, q5, q6, q7⟩ := Q0.out.call (by simp; omega) hb1; obtain ⟨hc1, hf1⟩ := bcell hb1)
  | (go_at_call 120; refine (Wd.ones_any 12 _).mono ?_; rw [h12]; rintro x w2 ⟨rfl, rfl⟩)
  | (go_at_call 15; refine (capMay _ _ _ _ _ _ _ _ _ (by exact hT.call (by repeat (first | with_reducible exact Below.refl _ _ | with_reducible assumption | with_reducible refine bal ?_ _ | with_reducible refine bgo ?_ (by with_reducible assumption) | refine Below.setCell ?_ (by first | exact Nat.le_refl _ | (simp; done) | (simp; omega)) _))) u1).mono ?_; rw [HK.out]; rintro x w3 ⟨rfl, hb3⟩; obtain ⟨hc3, hf3⟩ := bcell hb3; have hy := hb3.size; simp at hy; have hz30 : W.heap.size < w3.heap.size := (by omega); have hz31 : W.heap.size + 1 < w3.heap.size := (by omega); clear hy))
 all_goals exact bodyPost_ret (v := .tuple #[zcap, .int .i64 3]) (by simp [results, Tryz.results101, go_sem, hc1, hc3, hz0, hz1, hz30, hz31]) rfl ⟨rfl, (by repeat (first | with_reducible exact Below.refl _ _ | with_reducible assumption | with_reducible refine bal ?_ _ | with_reducible refine bgo ?_ (by with_reducible assumption) | refine Below.setCell ?_ (by first | exact Nat.le_refl _ | (simp; done) | (simp; omega)) _))⟩
theorem guarded_yes (a b c d e f g h : Int) (n : Nat) (W : World) (hT : TabG W) (hn : n < 65536) (hf : fitsB n 16 = true) (hk : capB a b c d (n % 4096) (n / 4096) g h = true) : Calls Tryz.prog 101 #[capV a b c d e f g h, .int .u64 n] W fun r W' => r = .returned (.tuple #[capV a b c d (n % 4096) (n / 4096) g h, .int .i64 0]) ∧ Below W.heap.size W W' := by
 have hn' : n < 2 ^ 64 := by omega
 have h12 : Wd.onesN 12 = 4095 := by decide
 have hb := Wd.and_ones n 12 (by omega) (by decide) (by decide)
 rw [h12] at hb
 have HK := hid hk
 clear hk
 have u1 : ((n : Int) % 4096) ≤ 9223372036854775807 := by omega
 have q0 := ((capAt_new W 33 a b c d e f g h).alloc (by simp) (.cells #[.int .i64 0, .int .i64 0, .int .i64 0, .int .u64 0, .int .i64 0, .int .i64 0, .int .i64 0, .int .i64 0] 33))
 have Q0 := hid q0
 clear q0
 go_enter Tryz.func101, Tryz.ntmps101
 go_wp2_with (first
  | (go_at_call 98; refine (fits_any n 16 _ hn' (hT.call (bal (bal (Below.refl _ _) _) _)).1 (hT.call (bal (bal (Below.refl _ _) _) _)).2).mono ?_; rw [hf]; rintro x w1 ⟨rfl, hb1⟩; have hz1 : W.heap.size + 1 < w1.heap.size := (by have := hb1.size; simp at this; omega); have hz0 : W.heap.size < w1.heap.size := (by omega); obtain ⟨q0, q1, q2, q3, q4, q5, q6, q7⟩ := Q0.out.call (by simp; omega) hb1; obtain ⟨hc1, hf1⟩ := bcell hb1)
  | (go_at_call 120; refine (Wd.ones_any 12 _).mono ?_; rw [h12]; rintro x w2 ⟨rfl, rfl⟩)
  | (go_at_call 15; refine (capMay _ _ _ _ _ _ _ _ _ (by exact hT.call (by repeat (first | with_reducible exact Below.refl _ _ | with_reducible assumption | with_reducible refine bal ?_ _ | with_reducible refine bgo ?_ (by with_reducible assumption) | refine Below.setCell ?_ (by first | exact Nat.le_refl _ | (simp; done) | (simp; omega)) _))) u1).mono ?_; rw [HK.out]; rintro x w3 ⟨rfl, hb3⟩; obtain ⟨hc3, hf3⟩ := bcell hb3; have hy := hb3.size; simp at hy; have hz30 : W.heap.size < w3.heap.size := (by omega); have hz31 : W.heap.size + 1 < w3.heap.size := (by omega); clear hy))
 all_goals exact bodyPost_ret (v := .tuple #[capV a b c d (n % 4096) (n / 4096) g h, .int .i64 0]) (by simp [results, Tryz.results101, go_sem, hc1, hc3, hz0, hz1, hz30, hz31]) rfl ⟨rfl, (by repeat (first | with_reducible exact Below.refl _ _ | with_reducible assumption | with_reducible refine bal ?_ _ | with_reducible refine bgo ?_ (by with_reducible assumption) | refine Below.setCell ?_ (by first | exact Nat.le_refl _ | (simp; done) | (simp; omega)) _))⟩
theorem rcopy_bad1 (a b c d e f g h m : Int) (W : World) (hx : capB a b c d e f g h = false) :
  Calls Tryz.prog 88 #[capV a b c d e f g h, .int .i64 m] W fun r W' => r = .returned (.tuple #[zcap, .int .i64 2]) ∧ Below W.heap.size W W' := by
 have HX := hid hx
 clear hx
 all_goals
  go_enter Tryz.func88, Tryz.ntmps88
  go_wp2_with (first
   | (go_at_call 110; refine (refMay13 _ _ _ _ _ _ _ _ _).mono ?_; rw [HX.out]; rintro r w1 ⟨rfl, hb1⟩; obtain ⟨hc1, hf1⟩ := bcell hb1; have hz1 : W.heap.size + 1 < w1.heap.size := (by have := hb1.size; simp at this; omega); have hz0 : W.heap.size < w1.heap.size := (by omega); have p2 : w1.cell? ⟨W.heap.size, 2, none⟩ = some (.int .i64 c) := ((hc1 _ _ (by simp; omega)).trans (by simp)); have p6 : w1.cell? ⟨W.heap.size, 6, none⟩ = some (.int .i64 g) := ((hc1 _ _ (by simp; omega)).trans (by simp)); have p7 : w1.cell? ⟨W.heap.size, 7, none⟩ = some (.int .i64 h) := ((hc1 _ _ (by simp; omega)).trans (by simp)))
   | (go_at_call 111; refine (refMay9 _ _).mono ?_; rw [HM.out]; rintro r w2 ⟨rfl, rfl⟩))
  all_goals
   exact bodyPost_ret (v := .tuple #[zcap, .int .i64 2]) (by simp [results, Tryz.results88, go_sem, hc1, hz1]) rfl ⟨rfl, (by repeat (first | with_reducible exact Below.refl _ _ | with_reducible assumption | with_reducible refine below_drewN ?_ _ | with_reducible refine Below.drew ?_ | with_reducible refine bal ?_ _ | with_reducible refine bgo ?_ (by with_reducible assumption) | refine Below.setCell ?_ (by first | exact Nat.le_refl _ | (simp; done) | (simp; omega)) _))⟩
theorem rcopy_bad2 (a b c d e f g h m : Int) (W : World) (hx : capB a b c d e f g h = true) (hm : mayB m = false) :
  Calls Tryz.prog 88 #[capV a b c d e f g h, .int .i64 m] W fun r W' => r = .returned (.tuple #[zcap, .int .i64 2]) ∧ Below W.heap.size W W' := by
 have HX := hid hx
 have HM := hid hm
 clear hx hm
 all_goals
  go_enter Tryz.func88, Tryz.ntmps88
  go_wp2_with (first
   | (go_at_call 110; refine (refMay13 _ _ _ _ _ _ _ _ _).mono ?_; rw [HX.out]; rintro r w1 ⟨rfl, hb1⟩; obtain ⟨hc1, hf1⟩ := bcell hb1; have hz1 : W.heap.size + 1 < w1.heap.size := (by have := hb1.size; simp at this; omega); have hz0 : W.heap.size < w1.heap.size := (by omega); have p2 : w1.cell? ⟨W.heap.size, 2, none⟩ = some (.int .i64 c) := ((hc1 _ _ (by simp; omega)).trans (by simp)); have p6 : w1.cell? ⟨W.heap.size, 6, none⟩ = some (.int .i64 g) := ((hc1 _ _ (by simp; omega)).trans (by simp)); have p7 : w1.cell? ⟨W.heap.size, 7, none⟩ = some (.int .i64 h) := ((hc1 _ _ (by simp; omega)).trans (by simp)))
   | (go_at_call 111; refine (refMay9 _ _).mono ?_; rw [HM.out]; rintro r w2 ⟨rfl, rfl⟩))
  all_goals
   exact bodyPost_ret (v := .tuple #[zcap, .int .i64 2]) (by simp [results, Tryz.results88, go_sem, hc1, hz1]) rfl ⟨rfl, (by repeat (first | with_reducible exact Below.refl _ _ | with_reducible assumption | with_reducible refine below_drewN ?_ _ | with_reducible refine Below.drew ?_ | with_reducible refine bal ?_ _ | with_reducible refine bgo ?_ (by with_reducible assumption) | refine Below.setCell ?_ (by first | exact Nat.le_refl _ | (simp; done) | (simp; omega)) _))⟩
theorem rcopy_k0 (a b c d e f g h m : Int) (W : World) (hx : capB a b c d e f g h = true) (hm : mayB m = true) (ha : a = 0) :
  Calls Tryz.prog 88 #[capV a b c d e f g h, .int .i64 m] W fun r W' => r = .returned (.tuple #[zcap, .int .i64 10]) ∧ Below W.heap.size W W' := by
 have HX := hid hx
 have HM := hid hm
 clear hx hm
 subst ha
 all_goals
  go_enter Tryz.func88, Tryz.ntmps88
  go_wp2_with (first
   | (go_at_call 110; refine (refMay13 _ _ _ _ _ _ _ _ _).mono ?_; rw [HX.out]; rintro r w1 ⟨rfl, hb1⟩; obtain ⟨hc1, hf1⟩ := bcell hb1; have hz1 : W.heap.size + 1 < w1.heap.size := (by have := hb1.size; simp at this; omega); have hz0 : W.heap.size < w1.heap.size := (by omega); have p2 : w1.cell? ⟨W.heap.size, 2, none⟩ = some (.int .i64 c) := ((hc1 _ _ (by simp; omega)).trans (by simp)); have p6 : w1.cell? ⟨W.heap.size, 6, none⟩ = some (.int .i64 g) := ((hc1 _ _ (by simp; omega)).trans (by simp)); have p7 : w1.cell? ⟨W.heap.size, 7, none⟩ = some (.int .i64 h) := ((hc1 _ _ (by simp; omega)).trans (by simp)))
   | (go_at_call 111; refine (refMay9 _ _).mono ?_; rw [HM.out]; rintro r w2 ⟨rfl, rfl⟩))
  all_goals
   exact bodyPost_ret (v := .tuple #[zcap, .int .i64 10]) (by simp [results, Tryz.results88, go_sem, hc1, hz1]) rfl ⟨rfl, (by repeat (first | with_reducible exact Below.refl _ _ | with_reducible assumption | with_reducible refine below_drewN ?_ _ | with_reducible refine Below.drew ?_ | with_reducible refine bal ?_ _ | with_reducible refine bgo ?_ (by with_reducible assumption) | refine Below.setCell ?_ (by first | exact Nat.le_refl _ | (simp; done) | (simp; omega)) _))⟩
theorem rcopy_k1 (a b c d e f g h m : Int) (W : World) (hx : capB a b c d e f g h = true) (hm : mayB m = true) (ha : a = 1 ∨ a = 7) :
  Calls Tryz.prog 88 #[capV a b c d e f g h, .int .i64 m] W fun r W' => r = .returned (.tuple #[zcap, .int .i64 8]) ∧ Below W.heap.size W W' := by
 have HX := hid hx
 have HM := hid hm
 clear hx hm
 rcases ha with rfl | rfl
 all_goals
  go_enter Tryz.func88, Tryz.ntmps88
  go_wp2_with (first
   | (go_at_call 110; refine (refMay13 _ _ _ _ _ _ _ _ _).mono ?_; rw [HX.out]; rintro r w1 ⟨rfl, hb1⟩; obtain ⟨hc1, hf1⟩ := bcell hb1; have hz1 : W.heap.size + 1 < w1.heap.size := (by have := hb1.size; simp at this; omega); have hz0 : W.heap.size < w1.heap.size := (by omega); have p2 : w1.cell? ⟨W.heap.size, 2, none⟩ = some (.int .i64 c) := ((hc1 _ _ (by simp; omega)).trans (by simp)); have p6 : w1.cell? ⟨W.heap.size, 6, none⟩ = some (.int .i64 g) := ((hc1 _ _ (by simp; omega)).trans (by simp)); have p7 : w1.cell? ⟨W.heap.size, 7, none⟩ = some (.int .i64 h) := ((hc1 _ _ (by simp; omega)).trans (by simp)))
   | (go_at_call 111; refine (refMay9 _ _).mono ?_; rw [HM.out]; rintro r w2 ⟨rfl, rfl⟩))
  all_goals
   exact bodyPost_ret (v := .tuple #[zcap, .int .i64 8]) (by simp [results, Tryz.results88, go_sem, hc1, hz1]) rfl ⟨rfl, (by repeat (first | with_reducible exact Below.refl _ _ | with_reducible assumption | with_reducible refine below_drewN ?_ _ | with_reducible refine Below.drew ?_ | with_reducible refine bal ?_ _ | with_reducible refine bgo ?_ (by with_reducible assumption) | refine Below.setCell ?_ (by first | exact Nat.le_refl _ | (simp; done) | (simp; omega)) _))⟩
theorem rcopy_rest (a b c d e f g h m : Int) (W : World) (hx : capB a b c d e f g h = true) (hm : mayB m = true) (ha : a = 2 ∨ a = 4 ∨ a = 5 ∨ a = 6 ∨ a = 9) :
  Calls Tryz.prog 88 #[capV a b c d e f g h, .int .i64 m] W fun r W' => r = .returned (.tuple #[capV a b c d e f g h, .int .i64 0]) ∧ Below W.heap.size W W' := by
 have HX := hid hx
 have HM := hid hm
 clear hx hm
 rcases ha with rfl | rfl | rfl | rfl | rfl
 all_goals
  go_enter Tryz.func88, Tryz.ntmps88
  go_wp2_with (first
   | (go_at_call 110; refine (refMay13 _ _ _ _ _ _ _ _ _).mono ?_; rw [HX.out]; rintro r w1 ⟨rfl, hb1⟩; obtain ⟨hc1, hf1⟩ := bcell hb1; have hz1 : W.heap.size + 1 < w1.heap.size := (by have := hb1.size; simp at this; omega); have hz0 : W.heap.size < w1.heap.size := (by omega); have p2 : w1.cell? ⟨W.heap.size, 2, none⟩ = some (.int .i64 c) := ((hc1 _ _ (by simp; omega)).trans (by simp)); have p6 : w1.cell? ⟨W.heap.size, 6, none⟩ = some (.int .i64 g) := ((hc1 _ _ (by simp; omega)).trans (by simp)); have p7 : w1.cell? ⟨W.heap.size, 7, none⟩ = some (.int .i64 h) := ((hc1 _ _ (by simp; omega)).trans (by simp)))
   | (go_at_call 111; refine (refMay9 _ _).mono ?_; rw [HM.out]; rintro r w2 ⟨rfl, rfl⟩))
  all_goals
   exact bodyPost_ret (v := .tuple #[capV _ b c d e f g h, .int .i64 0]) (by simp [results, Tryz.results88, go_sem, hc1, hz1]) rfl ⟨rfl, (by repeat (first | with_reducible exact Below.refl _ _ | with_reducible assumption | with_reducible refine below_drewN ?_ _ | with_reducible refine Below.drew ?_ | with_reducible refine bal ?_ _ | with_reducible refine bgo ?_ (by with_reducible assumption) | refine Below.setCell ?_ (by first | exact Nat.le_refl _ | (simp; done) | (simp; omega)) _))⟩
theorem rcopy_k3n (a b c d e f g h m : Int) (W : World) (hx : capB a b c d e f g h = true) (hm : mayB m = true) (ha : a = 3) (hn : maskN c m = 0) :
  Calls Tryz.prog 88 #[capV a b c d e f g h, .int .i64 m] W fun r W' => r = .returned (.tuple #[zcap, .int .i64 9]) ∧ Below W.heap.size W W' := by
 obtain ⟨c0, c1⟩ := cap_c hx (.inl ha)
 obtain ⟨m0, m1⟩ := mayB_of hm
 have HX := hid hx
 have HM := hid hm
 clear hx hm
 subst ha
 have HN := hid hn
 clear hn
 all_goals
  go_enter Tryz.func88, Tryz.ntmps88
  go_wp2_with (first
   | (go_at_call 110; refine (refMay13 _ _ _ _ _ _ _ _ _).mono ?_; rw [HX.out]; rintro r w1 ⟨rfl, hb1⟩; obtain ⟨hc1, hf1⟩ := bcell hb1; have hz1 : W.heap.size + 1 < w1.heap.size := (by have := hb1.size; simp at this; omega); have hz0 : W.heap.size < w1.heap.size := (by omega); have p2 : w1.cell? ⟨W.heap.size, 2, none⟩ = some (.int .i64 c) := ((hc1 _ _ (by simp; omega)).trans (by simp)); have p6 : w1.cell? ⟨W.heap.size, 6, none⟩ = some (.int .i64 g) := ((hc1 _ _ (by simp; omega)).trans (by simp)); have p7 : w1.cell? ⟨W.heap.size, 7, none⟩ = some (.int .i64 h) := ((hc1 _ _ (by simp; omega)).trans (by simp)))
   | (go_at_call 111; refine (refMay9 _ _).mono ?_; rw [HM.out]; rintro r w2 ⟨rfl, rfl⟩)
   | (go_at_call 112; refine (mask9 _ _ _ c0 c1 m0 m1).mono ?_; rw [HN.out]; rintro r w3 ⟨rfl, rfl⟩))
  all_goals
   exact bodyPost_ret (v := .tuple #[zcap, .int .i64 9]) (by simp [results, Tryz.results88, go_sem, hc1, hz1]) rfl ⟨rfl, (by repeat (first | with_reducible exact Below.refl _ _ | with_reducible assumption | with_reducible refine below_drewN ?_ _ | with_reducible refine Below.drew ?_ | with_reducible refine bal ?_ _ | with_reducible refine bgo ?_ (by with_reducible assumption) | refine Below.setCell ?_ (by first | exact Nat.le_refl _ | (simp; done) | (simp; omega)) _))⟩
theorem rcopy_k3y (a b c d e f g h m : Int) (W : World) (hx : capB a b c d e f g h = true) (hm : mayB m = true) (ha : a = 3) (hn : maskN c m ≠ 0) :
  Calls Tryz.prog 88 #[capV a b c d e f g h, .int .i64 m] W fun r W' => r = .returned (.tuple #[capV a b (maskN c m) d e f 0 0, .int .i64 0]) ∧ Below W.heap.size W W' := by
 obtain ⟨c0, c1⟩ := cap_c hx (.inl ha)
 obtain ⟨m0, m1⟩ := mayB_of hm
 have HX := hid hx
 have HM := hid hm
 clear hx hm
 subst ha
 have hk := mask_bd c0 c1 m0 m1
 generalize hq : maskN c m = q at *
 have HN := hid hq
 clear hq
 have hn' : (q == 0) = false := beq_eq_false_iff_ne.2 hn
 clear hn
 all_goals
  go_enter Tryz.func88, Tryz.ntmps88
  go_wp2_with (first
   | (go_at_call 110; refine (refMay13 _ _ _ _ _ _ _ _ _).mono ?_; rw [HX.out]; rintro r w1 ⟨rfl, hb1⟩; obtain ⟨hc1, hf1⟩ := bcell hb1; have hz1 : W.heap.size + 1 < w1.heap.size := (by have := hb1.size; simp at this; omega); have hz0 : W.heap.size < w1.heap.size := (by omega); have p2 : w1.cell? ⟨W.heap.size, 2, none⟩ = some (.int .i64 c) := ((hc1 _ _ (by simp; omega)).trans (by simp)); have p6 : w1.cell? ⟨W.heap.size, 6, none⟩ = some (.int .i64 g) := ((hc1 _ _ (by simp; omega)).trans (by simp)); have p7 : w1.cell? ⟨W.heap.size, 7, none⟩ = some (.int .i64 h) := ((hc1 _ _ (by simp; omega)).trans (by simp)))
   | (go_at_call 111; refine (refMay9 _ _).mono ?_; rw [HM.out]; rintro r w2 ⟨rfl, rfl⟩)
   | (go_at_call 112; refine (mask9 _ _ _ c0 c1 m0 m1).mono ?_; rw [HN.out]; rintro r w3 ⟨rfl, rfl⟩))
  all_goals
   exact bodyPost_ret (v := .tuple #[capV _ b q d e f 0 0, .int .i64 0]) (by simp [results, Tryz.results88, go_sem, hc1, hz1]) rfl ⟨rfl, (by repeat (first | with_reducible exact Below.refl _ _ | with_reducible assumption | with_reducible refine below_drewN ?_ _ | with_reducible refine Below.drew ?_ | with_reducible refine bal ?_ _ | with_reducible refine bgo ?_ (by with_reducible assumption) | refine Below.setCell ?_ (by first | exact Nat.le_refl _ | (simp; done) | (simp; omega)) _))⟩
theorem rcopy_k8 (a b c d e f g h m : Int) (W : World) (hx : capB a b c d e f g h = true) (hm : mayB m = true) (ha : a = 8) :
  Calls Tryz.prog 88 #[capV a b c d e f g h, .int .i64 m] W fun r W' => r = .returned (.tuple #[capV a b (maskN c m) d e f g h, .int .i64 0]) ∧ Below W.heap.size W W' := by
 obtain ⟨c0, c1⟩ := cap_c hx (.inr ha)
 obtain ⟨m0, m1⟩ := mayB_of hm
 have HX := hid hx
 have HM := hid hm
 clear hx hm
 subst ha
 generalize hq : maskN c m = q at *
 have HN := hid hq
 clear hq
 all_goals
  go_enter Tryz.func88, Tryz.ntmps88
  go_wp2_with (first
   | (go_at_call 110; refine (refMay13 _ _ _ _ _ _ _ _ _).mono ?_; rw [HX.out]; rintro r w1 ⟨rfl, hb1⟩; obtain ⟨hc1, hf1⟩ := bcell hb1; have hz1 : W.heap.size + 1 < w1.heap.size := (by have := hb1.size; simp at this; omega); have hz0 : W.heap.size < w1.heap.size := (by omega); have p2 : w1.cell? ⟨W.heap.size, 2, none⟩ = some (.int .i64 c) := ((hc1 _ _ (by simp; omega)).trans (by simp)); have p6 : w1.cell? ⟨W.heap.size, 6, none⟩ = some (.int .i64 g) := ((hc1 _ _ (by simp; omega)).trans (by simp)); have p7 : w1.cell? ⟨W.heap.size, 7, none⟩ = some (.int .i64 h) := ((hc1 _ _ (by simp; omega)).trans (by simp)))
   | (go_at_call 111; refine (refMay9 _ _).mono ?_; rw [HM.out]; rintro r w2 ⟨rfl, rfl⟩)
   | (go_at_call 112; refine (mask9 _ _ _ c0 c1 m0 m1).mono ?_; rw [HN.out]; rintro r w3 ⟨rfl, rfl⟩))
  all_goals
   exact bodyPost_ret (v := .tuple #[capV _ b q d e f g h, .int .i64 0]) (by simp [results, Tryz.results88, go_sem, hc1, hz1]) rfl ⟨rfl, (by repeat (first | with_reducible exact Below.refl _ _ | with_reducible assumption | with_reducible refine below_drewN ?_ _ | with_reducible refine Below.drew ?_ | with_reducible refine bal ?_ _ | with_reducible refine bgo ?_ (by with_reducible assumption) | refine Below.setCell ?_ (by first | exact Nat.le_refl _ | (simp; done) | (simp; omega)) _))⟩
def CapX.B (x : CapX) : Bool := capB x.a x.b x.c x.d x.e x.f x.g x.h
abbrev zX : CapX := ⟨0, 0, 0, 0, 0, 0, 0, 0⟩
def copyX (x : CapX) (m : Int) : CapX × Int :=
 if x.B = false ∨ mayB m = false then (zX, 2)
 else if x.a = 0 then (zX, 10)
 else if x.a = 1 ∨ x.a = 7 then (zX, 8)
 else if x.a = 3 then (if maskN x.c m = 0 then (zX, 9) else (⟨x.a, x.b, maskN x.c m, x.d, x.e, x.f, 0, 0⟩, 0))
 else if x.a = 8 then (⟨x.a, x.b, maskN x.c m, x.d, x.e, x.f, x.g, x.h⟩, 0)
 else (x, 0)
abbrev Gives (F : Nat) (args : Array Value) (r : Value) : Prop := ∀ w : World, TabG w → Calls Tryz.prog F args w fun e w' => e = .returned r ∧ Below w.heap.size w w'
theorem capB_kind {a b c d e f g h : Int} (hx : capB a b c d e f g h = true) : a = 0 ∨ a = 7 ∨ a = 1 ∨ a = 3 ∨ a = 8 ∨ a = 2 ∨ a = 4 ∨ a = 5 ∨ a = 6 ∨ a = 9 := by
 unfold capB at hx
 split at hx
 ·omega
 ·split at hx
  ·omega
  ·split at hx
   ·omega
   ·split at hx
    ·omega
    ·split at hx
     ·omega
     ·simp at hx
theorem copyD (x : CapX) (m : Int) (he : x.e ≤ 9223372036854775807) : Gives 63 #[x.val, .int .i64 m] (.tuple #[(copyX x m).1.val, .int .i64 (copyX x m).2]) := by
 intro W hT
 obtain ⟨a, b, c, d, e, f, g, h⟩ := x
 cases hx : capB a b c d e f g h with
 | false =>
  rw [show copyX ⟨a, b, c, d, e, f, g, h⟩ m = (zX, 2) by simp [copyX, CapX.B, hx]]
  exact copy_bad1 a b c d e f g h m W hT he hx
 | true =>
  cases hm : mayB m with
  | false =>
   rw [show copyX ⟨a, b, c, d, e, f, g, h⟩ m = (zX, 2) by simp [copyX, CapX.B, hm]]
   exact copy_bad2 a b c d e f g h m W hT he hx hm
  | true =>
   rcases capB_kind hx with ha | ha | ha | ha | ha | ha
   ·rw [show copyX ⟨a, b, c, d, e, f, g, h⟩ m = (zX, 10) by subst ha; simp [copyX, CapX.B, hx, hm]]
    exact copy_k0 a b c d e f g h m W hT he hx hm ha
   ·rw [show copyX ⟨a, b, c, d, e, f, g, h⟩ m = (zX, 8) by subst ha; simp [copyX, CapX.B, hx, hm]]
    exact copy_k1 a b c d e f g h m W hT he hx hm (.inr ha)
   ·rw [show copyX ⟨a, b, c, d, e, f, g, h⟩ m = (zX, 8) by subst ha; simp [copyX, CapX.B, hx, hm]]
    exact copy_k1 a b c d e f g h m W hT he hx hm (.inl ha)
   ·by_cases hn : maskN c m = 0
    ·rw [show copyX ⟨a, b, c, d, e, f, g, h⟩ m = (zX, 9) by subst ha; simp [copyX, CapX.B, hx, hm, hn]]
     exact copy_k3n a b c d e f g h m W hT he hx hm ha hn
    ·rw [show copyX ⟨a, b, c, d, e, f, g, h⟩ m = (⟨a, b, maskN c m, d, e, f, 0, 0⟩, 0) by subst ha; simp [copyX, CapX.B, hx, hm, hn]]
     exact copy_k3y a b c d e f g h m W hT he hx hm ha hn
   ·rw [show copyX ⟨a, b, c, d, e, f, g, h⟩ m = (⟨a, b, maskN c m, d, e, f, g, h⟩, 0) by subst ha; simp [copyX, CapX.B, hx, hm]]
    exact copy_k8 a b c d e f g h m W hT he hx hm ha
   ·rw [show copyX ⟨a, b, c, d, e, f, g, h⟩ m = (⟨a, b, c, d, e, f, g, h⟩, 0) by
     have h0 : ¬ a = 0 := by omega
     have h1 : ¬ (a = 1 ∨ a = 7) := by omega
     have h3 : ¬ a = 3 := by omega
     have h8 : ¬ a = 8 := by omega
     simp only [copyX, CapX.B, hx, hm, Bool.true_eq_false, or_self, if_neg h0, if_neg h1, if_neg h3, if_neg h8, if_false]]
    exact copy_rest a b c d e f g h m W hT he hx hm ha
theorem copyR14 (x : CapX) (m : Int) (W : World) : Calls Tryz.prog 88 #[x.val, .int .i64 m] W fun r W' => r = .returned (.tuple #[(copyX x m).1.val, .int .i64 (copyX x m).2]) ∧ Below W.heap.size W W' := by
 obtain ⟨a, b, c, d, e, f, g, h⟩ := x
 cases hx : capB a b c d e f g h with
 | false =>
  rw [show copyX ⟨a, b, c, d, e, f, g, h⟩ m = (zX, 2) by simp [copyX, CapX.B, hx]]
  exact rcopy_bad1 a b c d e f g h m W hx
 | true =>
  cases hm : mayB m with
  | false =>
   rw [show copyX ⟨a, b, c, d, e, f, g, h⟩ m = (zX, 2) by simp [copyX, CapX.B, hm]]
   exact rcopy_bad2 a b c d e f g h m W hx hm
  | true =>
   rcases capB_kind hx with ha | ha | ha | ha | ha | ha
   ·rw [show copyX ⟨a, b, c, d, e, f, g, h⟩ m = (zX, 10) by subst ha; simp [copyX, CapX.B, hx, hm]]
    exact rcopy_k0 a b c d e f g h m W hx hm ha
   ·rw [show copyX ⟨a, b, c, d, e, f, g, h⟩ m = (zX, 8) by subst ha; simp [copyX, CapX.B, hx, hm]]
    exact rcopy_k1 a b c d e f g h m W hx hm (.inr ha)
   ·rw [show copyX ⟨a, b, c, d, e, f, g, h⟩ m = (zX, 8) by subst ha; simp [copyX, CapX.B, hx, hm]]
    exact rcopy_k1 a b c d e f g h m W hx hm (.inl ha)
   ·by_cases hn : maskN c m = 0
    ·rw [show copyX ⟨a, b, c, d, e, f, g, h⟩ m = (zX, 9) by subst ha; simp [copyX, CapX.B, hx, hm, hn]]
     exact rcopy_k3n a b c d e f g h m W hx hm ha hn
    ·rw [show copyX ⟨a, b, c, d, e, f, g, h⟩ m = (⟨a, b, maskN c m, d, e, f, 0, 0⟩, 0) by subst ha; simp [copyX, CapX.B, hx, hm, hn]]
     exact rcopy_k3y a b c d e f g h m W hx hm ha hn
   ·rw [show copyX ⟨a, b, c, d, e, f, g, h⟩ m = (⟨a, b, maskN c m, d, e, f, g, h⟩, 0) by subst ha; simp [copyX, CapX.B, hx, hm]]
    exact rcopy_k8 a b c d e f g h m W hx hm ha
   ·rw [show copyX ⟨a, b, c, d, e, f, g, h⟩ m = (⟨a, b, c, d, e, f, g, h⟩, 0) by
     have h0 : ¬ a = 0 := by omega
     have h1 : ¬ (a = 1 ∨ a = 7) := by omega
     have h3 : ¬ a = 3 := by omega
     have h8 : ¬ a = 8 := by omega
     simp only [copyX, CapX.B, hx, hm, Bool.true_eq_false, or_self, if_neg h0, if_neg h1, if_neg h3, if_neg h8, if_false]]
    exact rcopy_rest a b c d e f g h m W hx hm ha
theorem copyX_ways (x : CapX) (m : Int) : (copyX x m).1 = zX ∧ (0 < (copyX x m).2 ∧ (copyX x m).2 ≤ 10) ∨ ((copyX x m).2 = 0 ∧ x.B = true ∧ mayB m = true ∧
  (x.a = 3 ∧ maskN x.c m ≠ 0 ∧ (copyX x m).1 = ⟨x.a, x.b, maskN x.c m, x.d, x.e, x.f, 0, 0⟩ ∨ x.a = 8 ∧ (copyX x m).1 = ⟨x.a, x.b, maskN x.c m, x.d, x.e, x.f, x.g, x.h⟩ ∨
   (x.a = 2 ∨ x.a = 4 ∨ x.a = 5 ∨ x.a = 6 ∨ x.a = 9) ∧ (copyX x m).1 = x)) := by
 obtain ⟨a, b, c, d, e, f, g, h⟩ := x
 unfold copyX
 split
 ·exact .inl ⟨rfl, by decide⟩
 ·rename_i hh
  simp only [not_or, Bool.not_eq_false] at hh
  split
  ·exact .inl ⟨rfl, by decide⟩
  ·split
   ·exact .inl ⟨rfl, by decide⟩
   ·split
    ·split
     ·exact .inl ⟨rfl, by decide⟩
     ·exact .inr ⟨rfl, hh.1, hh.2, .inl ⟨by assumption, by assumption, rfl⟩⟩
    ·split
     ·exact .inr ⟨rfl, hh.1, hh.2, .inr (.inl ⟨by assumption, rfl⟩)⟩
     ·exact .inr ⟨rfl, hh.1, hh.2, .inr (.inr ⟨by have := capB_kind hh.1; simp only at *; omega, rfl⟩)⟩
theorem copy_bd {x : CapX} {m : Int} {y : CapX} {k : Int} (h : copyX x m = (y, k)) : 0 ≤ k ∧ k ≤ 100 := by
 have := copyX_ways x m
 rw [h] at this
 rcases this with ⟨_, h1, h2⟩ | ⟨h1, _⟩
 ·exact ⟨Int.le_of_lt h1, by omega⟩
 ·simp only at h1; omega
instance : DecidableEq CapX := fun x y => decidable_of_iff (x.a = y.a ∧ x.b = y.b ∧ x.c = y.c ∧ x.d = y.d ∧ x.e = y.e ∧ x.f = y.f ∧ x.g = y.g ∧ x.h = y.h) (by cases x; cases y; simp)
theorem mint_fail (a b c d e f g h a' b' c' d' e' f' g' h' m k n : Int) (W : World) (hT : TabG W) (h1 : Gives 63 #[capV a b c d e f g h, .int .i64 m] (.tuple #[zcap, .int .i64 k])) (hk : k ≠ 0) :
  Calls Tryz.prog 65 #[capV a b c d e f g h, .int .i64 m, .int .u64 n] W fun r W' => r = .returned (.tuple #[zcap, .int .i64 k]) ∧ Below W.heap.size W W' := by
 have H1 := hid h1
 clear h1
 have hk' : (k == 0) = false := beq_eq_false_iff_ne.2 hk
 have hk'' : (k != 0) = true := bne_iff_ne.2 hk
 clear hk
 go_enter Tryz.func65, Tryz.ntmps65
 go_wp2_with (first
  | (go_at_call 63; refine (H1.out _ (by exact hT.call (by repeat (first | with_reducible exact Below.refl _ _ | with_reducible assumption | with_reducible refine below_drewN ?_ _ | with_reducible refine Below.drew ?_ | with_reducible refine bal ?_ _ | with_reducible refine bgo ?_ (by with_reducible assumption) | refine Below.setCell ?_ (by first | exact Nat.le_refl _ | (simp; done) | (simp; omega)) _)))).mono ?_; rintro r w1 ⟨rfl, hb1⟩; obtain ⟨hc1, hf1⟩ := bcell hb1; have hz1 : W.heap.size + 1 < w1.heap.size := (by have := hb1.size; simp at this; omega); have hz0 : W.heap.size < w1.heap.size := (by omega)))
 all_goals exact bodyPost_ret (v := .tuple #[zcap, .int .i64 k]) (by simp [results, Tryz.results65, go_sem, hc1, hz0, hz1]) rfl ⟨rfl, (by repeat (first | with_reducible exact Below.refl _ _ | with_reducible assumption | with_reducible refine below_drewN ?_ _ | with_reducible refine Below.drew ?_ | with_reducible refine bal ?_ _ | with_reducible refine bgo ?_ (by with_reducible assumption) | refine Below.setCell ?_ (by first | exact Nat.le_refl _ | (simp; done) | (simp; omega)) _))⟩
theorem rmint_fail (a b c d e f g h a' b' c' d' e' f' g' h' m k n : Int) (W : World) (h1 : ∀ W : World, Calls Tryz.prog 88 #[capV a b c d e f g h, .int .i64 m] W fun r W' => r = .returned (.tuple #[zcap, .int .i64 k]) ∧ Below W.heap.size W W') (hk : k ≠ 0) :
  Calls Tryz.prog 89 #[capV a b c d e f g h, .int .i64 m, .int .u64 n] W fun r W' => r = .returned (.tuple #[zcap, .int .i64 k]) ∧ Below W.heap.size W W' := by
 have H1 := hid h1
 clear h1
 have hk' : (k == 0) = false := beq_eq_false_iff_ne.2 hk
 have hk'' : (k != 0) = true := bne_iff_ne.2 hk
 clear hk
 go_enter Tryz.func89, Tryz.ntmps89
 go_wp2_with (first
  | (go_at_call 88; refine (H1.out _).mono ?_; rintro r w1 ⟨rfl, hb1⟩; obtain ⟨hc1, hf1⟩ := bcell hb1; have hz1 : W.heap.size + 1 < w1.heap.size := (by have := hb1.size; simp at this; omega); have hz0 : W.heap.size < w1.heap.size := (by omega)))
 all_goals exact bodyPost_ret (v := .tuple #[zcap, .int .i64 k]) (by simp [results, Tryz.results89, go_sem, hc1, hz0, hz1]) rfl ⟨rfl, (by repeat (first | with_reducible exact Below.refl _ _ | with_reducible assumption | with_reducible refine below_drewN ?_ _ | with_reducible refine Below.drew ?_ | with_reducible refine bal ?_ _ | with_reducible refine bgo ?_ (by with_reducible assumption) | refine Below.setCell ?_ (by first | exact Nat.le_refl _ | (simp; done) | (simp; omega)) _))⟩
theorem mint_no (a b c d e f g h a' b' c' d' e' f' g' h' m k n : Int) (W : World) (hT : TabG W) (h1 : Gives 63 #[capV a b c d e f g h, .int .i64 m] (.tuple #[capV a' b' c' d' e' f' g' h', .int .i64 0])) (ha : a ≠ 8 ∧ a ≠ 2) (hn : n ≠ 0) :
  Calls Tryz.prog 65 #[capV a b c d e f g h, .int .i64 m, .int .u64 n] W fun r W' => r = .returned (.tuple #[zcap, .int .i64 2]) ∧ Below W.heap.size W W' := by
 have H1 := hid h1
 clear h1
 have a8 : (a == 8) = false := beq_eq_false_iff_ne.2 (by omega)
 have a2 : (a == 2) = false := beq_eq_false_iff_ne.2 (by omega)
 have n0 : (n == 0) = false := beq_eq_false_iff_ne.2 hn
 have n1 : (n != 0) = true := bne_iff_ne.2 hn
 clear hn
 go_enter Tryz.func65, Tryz.ntmps65
 go_wp2_with (first
  | (go_at_call 63; refine (H1.out _ (by exact hT.call (by repeat (first | with_reducible exact Below.refl _ _ | with_reducible assumption | with_reducible refine below_drewN ?_ _ | with_reducible refine Below.drew ?_ | with_reducible refine bal ?_ _ | with_reducible refine bgo ?_ (by with_reducible assumption) | refine Below.setCell ?_ (by first | exact Nat.le_refl _ | (simp; done) | (simp; omega)) _)))).mono ?_; rintro r w1 ⟨rfl, hb1⟩; obtain ⟨hc1, hf1⟩ := bcell hb1; have hz1 : W.heap.size + 1 < w1.heap.size := (by have := hb1.size; simp at this; omega); have hz0 : W.heap.size < w1.heap.size := (by omega)))
 all_goals exact bodyPost_ret (v := .tuple #[zcap, .int .i64 2]) (by simp [results, Tryz.results65, go_sem, hc1, hz0, hz1]) rfl ⟨rfl, (by repeat (first | with_reducible exact Below.refl _ _ | with_reducible assumption | with_reducible refine below_drewN ?_ _ | with_reducible refine Below.drew ?_ | with_reducible refine bal ?_ _ | with_reducible refine bgo ?_ (by with_reducible assumption) | refine Below.setCell ?_ (by first | exact Nat.le_refl _ | (simp; done) | (simp; omega)) _))⟩
theorem mint_same (a b c d e f g h a' b' c' d' e' f' g' h' m k n : Int) (W : World) (hT : TabG W) (h1 : Gives 63 #[capV a b c d e f g h, .int .i64 m] (.tuple #[capV a' b' c' d' e' f' g' h', .int .i64 0])) (ha : a ≠ 8 ∧ a ≠ 2) (hn : n = 0) :
  Calls Tryz.prog 65 #[capV a b c d e f g h, .int .i64 m, .int .u64 n] W fun r W' => r = .returned (.tuple #[capV a' b' c' d' e' f' g' h', .int .i64 0]) ∧ Below W.heap.size W W' := by
 have H1 := hid h1
 clear h1
 have a8 : (a == 8) = false := beq_eq_false_iff_ne.2 (by omega)
 have a2 : (a == 2) = false := beq_eq_false_iff_ne.2 (by omega)
 subst hn
 go_enter Tryz.func65, Tryz.ntmps65
 go_wp2_with (first
  | (go_at_call 63; refine (H1.out _ (by exact hT.call (by repeat (first | with_reducible exact Below.refl _ _ | with_reducible assumption | with_reducible refine below_drewN ?_ _ | with_reducible refine Below.drew ?_ | with_reducible refine bal ?_ _ | with_reducible refine bgo ?_ (by with_reducible assumption) | refine Below.setCell ?_ (by first | exact Nat.le_refl _ | (simp; done) | (simp; omega)) _)))).mono ?_; rintro r w1 ⟨rfl, hb1⟩; obtain ⟨hc1, hf1⟩ := bcell hb1; have hz1 : W.heap.size + 1 < w1.heap.size := (by have := hb1.size; simp at this; omega); have hz0 : W.heap.size < w1.heap.size := (by omega)))
 all_goals exact bodyPost_ret (v := .tuple #[capV a' b' c' d' e' f' g' h', .int .i64 0]) (by simp [results, Tryz.results65, go_sem, hc1, hz0, hz1]) rfl ⟨rfl, (by repeat (first | with_reducible exact Below.refl _ _ | with_reducible assumption | with_reducible refine below_drewN ?_ _ | with_reducible refine Below.drew ?_ | with_reducible refine bal ?_ _ | with_reducible refine bgo ?_ (by with_reducible assumption) | refine Below.setCell ?_ (by first | exact Nat.le_refl _ | (simp; done) | (simp; omega)) _))⟩
theorem rmint_no (a b c d e f g h a' b' c' d' e' f' g' h' m k n : Int) (W : World) (h1 : ∀ W : World, Calls Tryz.prog 88 #[capV a b c d e f g h, .int .i64 m] W fun r W' => r = .returned (.tuple #[capV a' b' c' d' e' f' g' h', .int .i64 0]) ∧ Below W.heap.size W W') (ha : a' ≠ 8 ∧ a' ≠ 2) (hn : n ≠ 0) :
  Calls Tryz.prog 89 #[capV a b c d e f g h, .int .i64 m, .int .u64 n] W fun r W' => r = .returned (.tuple #[zcap, .int .i64 2]) ∧ Below W.heap.size W W' := by
 have H1 := hid h1
 clear h1
 have a8 : (a' == 8) = false := beq_eq_false_iff_ne.2 (by omega)
 have a2 : (a' == 2) = false := beq_eq_false_iff_ne.2 (by omega)
 have n0 : (n == 0) = false := beq_eq_false_iff_ne.2 hn
 have n1 : (n != 0) = true := bne_iff_ne.2 hn
 clear hn
 go_enter Tryz.func89, Tryz.ntmps89
 go_wp2_with (first
  | (go_at_call 88; refine (H1.out _).mono ?_; rintro r w1 ⟨rfl, hb1⟩; obtain ⟨hc1, hf1⟩ := bcell hb1; have hz1 : W.heap.size + 1 < w1.heap.size := (by have := hb1.size; simp at this; omega); have hz0 : W.heap.size < w1.heap.size := (by omega)))
 all_goals exact bodyPost_ret (v := .tuple #[zcap, .int .i64 2]) (by simp [results, Tryz.results89, go_sem, hc1, hz0, hz1]) rfl ⟨rfl, (by repeat (first | with_reducible exact Below.refl _ _ | with_reducible assumption | with_reducible refine below_drewN ?_ _ | with_reducible refine Below.drew ?_ | with_reducible refine bal ?_ _ | with_reducible refine bgo ?_ (by with_reducible assumption) | refine Below.setCell ?_ (by first | exact Nat.le_refl _ | (simp; done) | (simp; omega)) _))⟩
theorem rmint_same (a b c d e f g h a' b' c' d' e' f' g' h' m k n : Int) (W : World) (h1 : ∀ W : World, Calls Tryz.prog 88 #[capV a b c d e f g h, .int .i64 m] W fun r W' => r = .returned (.tuple #[capV a' b' c' d' e' f' g' h', .int .i64 0]) ∧ Below W.heap.size W W') (ha : a' ≠ 8 ∧ a' ≠ 2) (hn : n = 0) :
  Calls Tryz.prog 89 #[capV a b c d e f g h, .int .i64 m, .int .u64 n] W fun r W' => r = .returned (.tuple #[capV a' b' c' d' e' f' g' h', .int .i64 0]) ∧ Below W.heap.size W W' := by
 have H1 := hid h1
 clear h1
 have a8 : (a' == 8) = false := beq_eq_false_iff_ne.2 (by omega)
 have a2 : (a' == 2) = false := beq_eq_false_iff_ne.2 (by omega)
 subst hn
 go_enter Tryz.func89, Tryz.ntmps89
 go_wp2_with (first
  | (go_at_call 88; refine (H1.out _).mono ?_; rintro r w1 ⟨rfl, hb1⟩; obtain ⟨hc1, hf1⟩ := bcell hb1; have hz1 : W.heap.size + 1 < w1.heap.size := (by have := hb1.size; simp at this; omega); have hz0 : W.heap.size < w1.heap.size := (by omega)))
 all_goals exact bodyPost_ret (v := .tuple #[capV a' b' c' d' e' f' g' h', .int .i64 0]) (by simp [results, Tryz.results89, go_sem, hc1, hz0, hz1]) rfl ⟨rfl, (by repeat (first | with_reducible exact Below.refl _ _ | with_reducible assumption | with_reducible refine below_drewN ?_ _ | with_reducible refine Below.drew ?_ | with_reducible refine bal ?_ _ | with_reducible refine bgo ?_ (by with_reducible assumption) | refine Below.setCell ?_ (by first | exact Nat.le_refl _ | (simp; done) | (simp; omega)) _))⟩
theorem mint_end (a b c d e f g h a' b' c' d' e' f' g' h' m k n : Int) (W : World) (hT : TabG W) (h1 : Gives 63 #[capV a b c d e f g h, .int .i64 m] (.tuple #[capV a' b' c' d' e' f' g' h', .int .i64 0])) (ha : a = 8) (z : CapX) (h2 : Gives 100 #[capV a' b' c' d' e' f' g' h', .int .u64 n] (.tuple #[capV z.a z.b z.c z.d z.e z.f z.g z.h, .int .i64 k])) :
  Calls Tryz.prog 65 #[capV a b c d e f g h, .int .i64 m, .int .u64 n] W fun r W' => r = .returned (.tuple #[capV z.a z.b z.c z.d z.e z.f z.g z.h, .int .i64 k]) ∧ Below W.heap.size W W' := by
 obtain ⟨z1, z2, z3, z4, z5, z6, z7, z8⟩ := z
 have H1 := hid h1
 clear h1
 subst ha
 have H2 := hid h2
 clear h2
 go_enter Tryz.func65, Tryz.ntmps65
 go_wp2_with (first
  | (go_at_call 63; refine (H1.out _ (by exact hT.call (by repeat (first | with_reducible exact Below.refl _ _ | with_reducible assumption | with_reducible refine below_drewN ?_ _ | with_reducible refine Below.drew ?_ | with_reducible refine bal ?_ _ | with_reducible refine bgo ?_ (by with_reducible assumption) | refine Below.setCell ?_ (by first | exact Nat.le_refl _ | (simp; done) | (simp; omega)) _)))).mono ?_; rintro r w1 ⟨rfl, hb1⟩; obtain ⟨hc1, hf1⟩ := bcell hb1; have hz1 : W.heap.size + 1 < w1.heap.size := (by have := hb1.size; simp at this; omega); have hz0 : W.heap.size < w1.heap.size := (by omega))
  | (go_at_call 100; refine (H2.out _ (by exact hT.call (by repeat (first | with_reducible exact Below.refl _ _ | with_reducible assumption | with_reducible refine below_drewN ?_ _ | with_reducible refine Below.drew ?_ | with_reducible refine bal ?_ _ | with_reducible refine bgo ?_ (by with_reducible assumption) | refine Below.setCell ?_ (by first | exact Nat.le_refl _ | (simp; done) | (simp; omega)) _)))).mono ?_; rintro r w2 ⟨rfl, hb2⟩; obtain ⟨hc2, hf2⟩ := bcell hb2; have hy := hb2.size; simp at hy; have hz20 : W.heap.size < w2.heap.size := (by omega); have hz21 : W.heap.size + 1 < w2.heap.size := (by omega); clear hy))
 all_goals exact bodyPost_ret (v := .tuple #[capV z1 z2 z3 z4 z5 z6 z7 z8, .int .i64 k]) (by simp [results, Tryz.results65, go_sem, hc1, hz0, hz1, hc2, hz20, hz21]) rfl ⟨rfl, (by repeat (first | with_reducible exact Below.refl _ _ | with_reducible assumption | with_reducible refine below_drewN ?_ _ | with_reducible refine Below.drew ?_ | with_reducible refine bal ?_ _ | with_reducible refine bgo ?_ (by with_reducible assumption) | refine Below.setCell ?_ (by first | exact Nat.le_refl _ | (simp; done) | (simp; omega)) _))⟩
theorem mint_node (a b c d e f g h a' b' c' d' e' f' g' h' m k n : Int) (W : World) (hT : TabG W) (h1 : Gives 63 #[capV a b c d e f g h, .int .i64 m] (.tuple #[capV a' b' c' d' e' f' g' h', .int .i64 0])) (ha : a = 2) (z : CapX) (h2 : Gives 101 #[capV a' b' c' d' e' f' g' h', .int .u64 n] (.tuple #[capV z.a z.b z.c z.d z.e z.f z.g z.h, .int .i64 k])) :
  Calls Tryz.prog 65 #[capV a b c d e f g h, .int .i64 m, .int .u64 n] W fun r W' => r = .returned (.tuple #[capV z.a z.b z.c z.d z.e z.f z.g z.h, .int .i64 k]) ∧ Below W.heap.size W W' := by
 obtain ⟨z1, z2, z3, z4, z5, z6, z7, z8⟩ := z
 have H1 := hid h1
 clear h1
 subst ha
 have H2 := hid h2
 clear h2
 go_enter Tryz.func65, Tryz.ntmps65
 go_wp2_with (first
  | (go_at_call 63; refine (H1.out _ (by exact hT.call (by repeat (first | with_reducible exact Below.refl _ _ | with_reducible assumption | with_reducible refine below_drewN ?_ _ | with_reducible refine Below.drew ?_ | with_reducible refine bal ?_ _ | with_reducible refine bgo ?_ (by with_reducible assumption) | refine Below.setCell ?_ (by first | exact Nat.le_refl _ | (simp; done) | (simp; omega)) _)))).mono ?_; rintro r w1 ⟨rfl, hb1⟩; obtain ⟨hc1, hf1⟩ := bcell hb1; have hz1 : W.heap.size + 1 < w1.heap.size := (by have := hb1.size; simp at this; omega); have hz0 : W.heap.size < w1.heap.size := (by omega))
  | (go_at_call 101; refine (H2.out _ (by exact hT.call (by repeat (first | with_reducible exact Below.refl _ _ | with_reducible assumption | with_reducible refine below_drewN ?_ _ | with_reducible refine Below.drew ?_ | with_reducible refine bal ?_ _ | with_reducible refine bgo ?_ (by with_reducible assumption) | refine Below.setCell ?_ (by first | exact Nat.le_refl _ | (simp; done) | (simp; omega)) _)))).mono ?_; rintro r w2 ⟨rfl, hb2⟩; obtain ⟨hc2, hf2⟩ := bcell hb2; have hy := hb2.size; simp at hy; have hz20 : W.heap.size < w2.heap.size := (by omega); have hz21 : W.heap.size + 1 < w2.heap.size := (by omega); clear hy))
 all_goals exact bodyPost_ret (v := .tuple #[capV z1 z2 z3 z4 z5 z6 z7 z8, .int .i64 k]) (by simp [results, Tryz.results65, go_sem, hc1, hz0, hz1, hc2, hz20, hz21]) rfl ⟨rfl, (by repeat (first | with_reducible exact Below.refl _ _ | with_reducible assumption | with_reducible refine below_drewN ?_ _ | with_reducible refine Below.drew ?_ | with_reducible refine bal ?_ _ | with_reducible refine bgo ?_ (by with_reducible assumption) | refine Below.setCell ?_ (by first | exact Nat.le_refl _ | (simp; done) | (simp; omega)) _))⟩
theorem rmint_hi (a b c d e f g h a' b' c' d' e' f' g' h' m k n : Int) (W : World) (h1 : ∀ W : World, Calls Tryz.prog 88 #[capV a b c d e f g h, .int .i64 m] W fun r W' => r = .returned (.tuple #[capV a' b' c' d' e' f' g' h', .int .i64 0]) ∧ Below W.heap.size W W') (ha : a' = 8) (hn : 16777215 < n) :
  Calls Tryz.prog 89 #[capV a b c d e f g h, .int .i64 m, .int .u64 n] W fun r W' => r = .returned (.tuple #[zcap, .int .i64 3]) ∧ Below W.heap.size W W' := by
 have H1 := hid h1
 clear h1
 subst ha
 go_enter Tryz.func89, Tryz.ntmps89
 go_wp2_with (first
  | (go_at_call 88; refine (H1.out _).mono ?_; rintro r w1 ⟨rfl, hb1⟩; obtain ⟨hc1, hf1⟩ := bcell hb1; have hz1 : W.heap.size + 1 < w1.heap.size := (by have := hb1.size; simp at this; omega); have hz0 : W.heap.size < w1.heap.size := (by omega)))
 all_goals exact bodyPost_ret (v := .tuple #[zcap, .int .i64 3]) (by simp [results, Tryz.results89, go_sem, hc1, hz0, hz1]) rfl ⟨rfl, (by repeat (first | with_reducible exact Below.refl _ _ | with_reducible assumption | with_reducible refine below_drewN ?_ _ | with_reducible refine Below.drew ?_ | with_reducible refine bal ?_ _ | with_reducible refine bgo ?_ (by with_reducible assumption) | refine Below.setCell ?_ (by first | exact Nat.le_refl _ | (simp; done) | (simp; omega)) _))⟩
theorem rmint_had (a b c d e f g h a' b' c' d' e' f' g' h' m k n : Int) (W : World) (h1 : ∀ W : World, Calls Tryz.prog 88 #[capV a b c d e f g h, .int .i64 m] W fun r W' => r = .returned (.tuple #[capV a' b' c' d' e' f' g' h', .int .i64 0]) ∧ Below W.heap.size W W') (ha : a' = 8) (hn : n ≤ 16777215) (hd : d' ≠ 0) :
  Calls Tryz.prog 89 #[capV a b c d e f g h, .int .i64 m, .int .u64 n] W fun r W' => r = .returned (.tuple #[zcap, .int .i64 9]) ∧ Below W.heap.size W W' := by
 have H1 := hid h1
 clear h1
 subst ha
 have d0 : (d' == 0) = false := beq_eq_false_iff_ne.2 hd
 have d1 : (d' != 0) = true := bne_iff_ne.2 hd
 clear hd
 go_enter Tryz.func89, Tryz.ntmps89
 go_wp2_with (first
  | (go_at_call 88; refine (H1.out _).mono ?_; rintro r w1 ⟨rfl, hb1⟩; obtain ⟨hc1, hf1⟩ := bcell hb1; have hz1 : W.heap.size + 1 < w1.heap.size := (by have := hb1.size; simp at this; omega); have hz0 : W.heap.size < w1.heap.size := (by omega)))
 all_goals exact bodyPost_ret (v := .tuple #[zcap, .int .i64 9]) (by simp [results, Tryz.results89, go_sem, hc1, hz0, hz1]) rfl ⟨rfl, (by repeat (first | with_reducible exact Below.refl _ _ | with_reducible assumption | with_reducible refine below_drewN ?_ _ | with_reducible refine Below.drew ?_ | with_reducible refine bal ?_ _ | with_reducible refine bgo ?_ (by with_reducible assumption) | refine Below.setCell ?_ (by first | exact Nat.le_refl _ | (simp; done) | (simp; omega)) _))⟩
theorem rmint_badge (a b c d e f g h a' b' c' d' e' f' g' h' m k n : Int) (W : World) (h1 : ∀ W : World, Calls Tryz.prog 88 #[capV a b c d e f g h, .int .i64 m] W fun r W' => r = .returned (.tuple #[capV a' b' c' d' e' f' g' h', .int .i64 0]) ∧ Below W.heap.size W W') (ha : a' = 8) (hn : n ≤ 16777215) (hd : d' = 0) :
  Calls Tryz.prog 89 #[capV a b c d e f g h, .int .i64 m, .int .u64 n] W fun r W' => r = .returned (.tuple #[capV a' b' c' n e' f' g' h', .int .i64 0]) ∧ Below W.heap.size W W' := by
 have H1 := hid h1
 clear h1
 subst ha
 subst hd
 go_enter Tryz.func89, Tryz.ntmps89
 go_wp2_with (first
  | (go_at_call 88; refine (H1.out _).mono ?_; rintro r w1 ⟨rfl, hb1⟩; obtain ⟨hc1, hf1⟩ := bcell hb1; have hz1 : W.heap.size + 1 < w1.heap.size := (by have := hb1.size; simp at this; omega); have hz0 : W.heap.size < w1.heap.size := (by omega)))
 all_goals exact bodyPost_ret (v := .tuple #[capV 8 b' c' n e' f' g' h', .int .i64 0]) (by simp [results, Tryz.results89, go_sem, hc1, hz0, hz1]) rfl ⟨rfl, (by repeat (first | with_reducible exact Below.refl _ _ | with_reducible assumption | with_reducible refine below_drewN ?_ _ | with_reducible refine Below.drew ?_ | with_reducible refine bal ?_ _ | with_reducible refine bgo ?_ (by with_reducible assumption) | refine Below.setCell ?_ (by first | exact Nat.le_refl _ | (simp; done) | (simp; omega)) _))⟩
theorem rmint_wide (a b c d e f g h a' b' c' d' e' f' g' h' m k n : Int) (W : World) (h1 : ∀ W : World, Calls Tryz.prog 88 #[capV a b c d e f g h, .int .i64 m] W fun r W' => r = .returned (.tuple #[capV a' b' c' d' e' f' g' h', .int .i64 0]) ∧ Below W.heap.size W W') (ha : a' = 2) (hn : 65536 ≤ n) :
  Calls Tryz.prog 89 #[capV a b c d e f g h, .int .i64 m, .int .u64 n] W fun r W' => r = .returned (.tuple #[zcap, .int .i64 3]) ∧ Below W.heap.size W W' := by
 have H1 := hid h1
 clear h1
 subst ha
 go_enter Tryz.func89, Tryz.ntmps89
 go_wp2_with (first
  | (go_at_call 88; refine (H1.out _).mono ?_; rintro r w1 ⟨rfl, hb1⟩; obtain ⟨hc1, hf1⟩ := bcell hb1; have hz1 : W.heap.size + 1 < w1.heap.size := (by have := hb1.size; simp at this; omega); have hz0 : W.heap.size < w1.heap.size := (by omega)))
 all_goals exact bodyPost_ret (v := .tuple #[zcap, .int .i64 3]) (by simp [results, Tryz.results89, go_sem, hc1, hz0, hz1]) rfl ⟨rfl, (by repeat (first | with_reducible exact Below.refl _ _ | with_reducible assumption | with_reducible refine below_drewN ?_ _ | with_reducible refine Below.drew ?_ | with_reducible refine bal ?_ _ | with_reducible refine bgo ?_ (by with_reducible assumption) | refine Below.setCell ?_ (by first | exact Nat.le_refl _ | (simp; done) | (simp; omega)) _))⟩
end CX
end
end Go.Proofs.YtchjfeafkmpmbaaGreatDoor
