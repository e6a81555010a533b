import Derived.Test.YtekllgejmgoajaaDoorPkbf
import Derived.RegionTactic
namespace Go.Proofs.YtekllgejmgoajaaDoor
set_option linter.unusedVariables false
set_option linter.unusedSimpArgs false
set_option maxRecDepth 100000
set_option maxHeartbeats 8000000
open Lib (hid)
section
namespace CX
open Go.ChangeShapes Go.WideShapes Go.ChangeAt Go.RowKit
abbrev zcap : Value := capV 0 0 0 0 0 0 0 0
theorem mayB_of {m : Int} (h : mayB m = true) : 0 ≤ m ∧ m ≤ 7 := of_decide_eq_true h
theorem cap_c {a b c d e f g h : Int} (hx : capB a b c d e f g h = true) (ha : a = 3 ∨ a = 8) : 0 ≤ c ∧ c ≤ 7 := by
 rcases ha with rfl | rfl
 ·simp [capB] at hx; omega
 ·simp [capB] at hx; exact mayB_of hx.1.1.2
theorem mask_key : ∀ r : Nat, r < 8 → ∀ m : Nat, m < 8 → 0 ≤ maskN r m ∧ maskN r m ≤ 7 := by decide +kernel
theorem mask_bd {r m : Int} (h0 : 0 ≤ r) (h1 : r ≤ 7) (h2 : 0 ≤ m) (h3 : m ≤ 7) : 0 ≤ maskN r m ∧ maskN r m ≤ 7 := by
 obtain ⟨a, rfl⟩ := Int.eq_ofNat_of_zero_le h0
 obtain ⟨b, rfl⟩ := Int.eq_ofNat_of_zero_le h2
 exact mask_key a (by omega) b (by omega)
theorem copy_bad1 (a b c d e f g h m : Int) (W : World) (hT : TabG W) (e1 : e ≤ 9223372036854775807) (hx : capB a b c d e f g h = false) :
  Calls Tryd.prog 32 #[capV a b c d e f g h, .int .i64 m] W fun r W' => r = .returned (.tuple #[zcap, .int .i64 2]) ∧ Below W.heap.size W W' := by
 have HX := hid hx
 clear hx
 all_goals
  go_enter Tryd.func32, Tryd.ntmps32
  go_wp2_with (first
   | (go_at_call 45; refine (capMay _ _ _ _ _ _ _ _ _ (by exact hT.call (by repeat (first | with_reducible exact Below.refl _ _ | with_reducible assumption | with_reducible refine below_drewN ?_ _ | with_reducible refine Below.drew ?_ | with_reducible refine bal ?_ _ | with_reducible refine bgo ?_ (by with_reducible assumption) | refine Below.setCell ?_ (by first | exact Nat.le_refl _ | (simp; done) | (simp; omega)) _))) e1).mono ?_; rw [HX.out]; rintro r w1 ⟨rfl, hb1⟩; obtain ⟨hc1, hf1⟩ := bcell hb1; have hz1 : W.heap.size + 1 < w1.heap.size := (by have := hb1.size; simp at this; omega); have hz0 : W.heap.size < w1.heap.size := (by omega))
   | (go_at_call 50; refine (may_any _ _).mono ?_; rw [HM.out]; rintro r w2 ⟨rfl, rfl⟩))
  all_goals
   exact bodyPost_ret (v := .tuple #[zcap, .int .i64 2]) (by simp [results, Tryd.results32, go_sem, hc1, hz1]) rfl ⟨rfl, (by repeat (first | with_reducible exact Below.refl _ _ | with_reducible assumption | with_reducible refine below_drewN ?_ _ | with_reducible refine Below.drew ?_ | with_reducible refine bal ?_ _ | with_reducible refine bgo ?_ (by with_reducible assumption) | refine Below.setCell ?_ (by first | exact Nat.le_refl _ | (simp; done) | (simp; omega)) _))⟩
theorem copy_bad2 (a b c d e f g h m : Int) (W : World) (hT : TabG W) (e1 : e ≤ 9223372036854775807) (hx : capB a b c d e f g h = true) (hm : mayB m = false) :
  Calls Tryd.prog 32 #[capV a b c d e f g h, .int .i64 m] W fun r W' => r = .returned (.tuple #[zcap, .int .i64 2]) ∧ Below W.heap.size W W' := by
 have HX := hid hx
 have HM := hid hm
 clear hx hm
 all_goals
  go_enter Tryd.func32, Tryd.ntmps32
  go_wp2_with (first
   | (go_at_call 45; refine (capMay _ _ _ _ _ _ _ _ _ (by exact hT.call (by repeat (first | with_reducible exact Below.refl _ _ | with_reducible assumption | with_reducible refine below_drewN ?_ _ | with_reducible refine Below.drew ?_ | with_reducible refine bal ?_ _ | with_reducible refine bgo ?_ (by with_reducible assumption) | refine Below.setCell ?_ (by first | exact Nat.le_refl _ | (simp; done) | (simp; omega)) _))) e1).mono ?_; rw [HX.out]; rintro r w1 ⟨rfl, hb1⟩; obtain ⟨hc1, hf1⟩ := bcell hb1; have hz1 : W.heap.size + 1 < w1.heap.size := (by have := hb1.size; simp at this; omega); have hz0 : W.heap.size < w1.heap.size := (by omega))
   | (go_at_call 50; refine (may_any _ _).mono ?_; rw [HM.out]; rintro r w2 ⟨rfl, rfl⟩))
  all_goals
   exact bodyPost_ret (v := .tuple #[zcap, .int .i64 2]) (by simp [results, Tryd.results32, go_sem, hc1, hz1]) rfl ⟨rfl, (by repeat (first | with_reducible exact Below.refl _ _ | with_reducible assumption | with_reducible refine below_drewN ?_ _ | with_reducible refine Below.drew ?_ | with_reducible refine bal ?_ _ | with_reducible refine bgo ?_ (by with_reducible assumption) | refine Below.setCell ?_ (by first | exact Nat.le_refl _ | (simp; done) | (simp; omega)) _))⟩
theorem copy_k0 (a b c d e f g h m : Int) (W : World) (hT : TabG W) (e1 : e ≤ 9223372036854775807) (hx : capB a b c d e f g h = true) (hm : mayB m = true) (ha : a = 0) :
  Calls Tryd.prog 32 #[capV a b c d e f g h, .int .i64 m] W fun r W' => r = .returned (.tuple #[zcap, .int .i64 10]) ∧ Below W.heap.size W W' := by
 have HX := hid hx
 have HM := hid hm
 clear hx hm
 subst ha
 all_goals
  go_enter Tryd.func32, Tryd.ntmps32
  go_wp2_with (first
   | (go_at_call 45; refine (capMay _ _ _ _ _ _ _ _ _ (by exact hT.call (by repeat (first | with_reducible exact Below.refl _ _ | with_reducible assumption | with_reducible refine below_drewN ?_ _ | with_reducible refine Below.drew ?_ | with_reducible refine bal ?_ _ | with_reducible refine bgo ?_ (by with_reducible assumption) | refine Below.setCell ?_ (by first | exact Nat.le_refl _ | (simp; done) | (simp; omega)) _))) e1).mono ?_; rw [HX.out]; rintro r w1 ⟨rfl, hb1⟩; obtain ⟨hc1, hf1⟩ := bcell hb1; have hz1 : W.heap.size + 1 < w1.heap.size := (by have := hb1.size; simp at this; omega); have hz0 : W.heap.size < w1.heap.size := (by omega))
   | (go_at_call 50; refine (may_any _ _).mono ?_; rw [HM.out]; rintro r w2 ⟨rfl, rfl⟩))
  all_goals
   exact bodyPost_ret (v := .tuple #[zcap, .int .i64 10]) (by simp [results, Tryd.results32, go_sem, hc1, hz1]) rfl ⟨rfl, (by repeat (first | with_reducible exact Below.refl _ _ | with_reducible assumption | with_reducible refine below_drewN ?_ _ | with_reducible refine Below.drew ?_ | with_reducible refine bal ?_ _ | with_reducible refine bgo ?_ (by with_reducible assumption) | refine Below.setCell ?_ (by first | exact Nat.le_refl _ | (simp; done) | (simp; omega)) _))⟩
theorem copy_k1 (a b c d e f g h m : Int) (W : World) (hT : TabG W) (e1 : e ≤ 9223372036854775807) (hx : capB a b c d e f g h = true) (hm : mayB m = true) (ha : a = 1 ∨ a = 7) :
  Calls Tryd.prog 32 #[capV a b c d e f g h, .int .i64 m] W fun r W' => r = .returned (.tuple #[zcap, .int .i64 8]) ∧ Below W.heap.size W W' := by
 have HX := hid hx
 have HM := hid hm
 clear hx hm
 rcases ha with rfl | rfl
 all_goals
  go_enter Tryd.func32, Tryd.ntmps32
  go_wp2_with (first
   | (go_at_call 45; refine (capMay _ _ _ _ _ _ _ _ _ (by exact hT.call (by repeat (first | with_reducible exact Below.refl _ _ | with_reducible assumption | with_reducible refine below_drewN ?_ _ | with_reducible refine Below.drew ?_ | with_reducible refine bal ?_ _ | with_reducible refine bgo ?_ (by with_reducible assumption) | refine Below.setCell ?_ (by first | exact Nat.le_refl _ | (simp; done) | (simp; omega)) _))) e1).mono ?_; rw [HX.out]; rintro r w1 ⟨rfl, hb1⟩; obtain ⟨hc1, hf1⟩ := bcell hb1; have hz1 : W.heap.size + 1 < w1.heap.size := (by have := hb1.size; simp at this; omega); have hz0 : W.heap.size < w1.heap.size := (by omega))
   | (go_at_call 50; refine (may_any _ _).mono ?_; rw [HM.out]; rintro r w2 ⟨rfl, rfl⟩))
  all_goals
   exact bodyPost_ret (v := .tuple #[zcap, .int .i64 8]) (by simp [results, Tryd.results32, go_sem, hc1, hz1]) rfl ⟨rfl, (by repeat (first | with_reducible exact Below.refl _ _ | with_reducible assumption | with_reducible refine below_drewN ?_ _ | with_reducible refine Below.drew ?_ | with_reducible refine bal ?_ _ | with_reducible refine bgo ?_ (by with_reducible assumption) | refine Below.setCell ?_ (by first | exact Nat.le_refl _ | (simp; done) | (simp; omega)) _))⟩
theorem copy_rest (a b c d e f g h m : Int) (W : World) (hT : TabG W) (e1 : e ≤ 9223372036854775807) (hx : capB a b c d e f g h = true) (hm : mayB m = true) (ha : a = 2 ∨ a = 4 ∨ a = 5 ∨ a = 6 ∨ a = 9) :
  Calls Tryd.prog 32 #[capV a b c d e f g h, .int .i64 m] W fun r W' => r = .returned (.tuple #[capV a b c d e f g h, .int .i64 0]) ∧ Below W.heap.size W W' := by
 have HX := hid hx
 have HM := hid hm
 clear hx hm
 rcases ha with rfl | rfl | rfl | rfl | rfl
 all_goals
  go_enter Tryd.func32, Tryd.ntmps32
  go_wp2_with (first
   | (go_at_call 45; refine (capMay _ _ _ _ _ _ _ _ _ (by exact hT.call (by repeat (first | with_reducible exact Below.refl _ _ | with_reducible assumption | with_reducible refine below_drewN ?_ _ | with_reducible refine Below.drew ?_ | with_reducible refine bal ?_ _ | with_reducible refine bgo ?_ (by with_reducible assumption) | refine Below.setCell ?_ (by first | exact Nat.le_refl _ | (simp; done) | (simp; omega)) _))) e1).mono ?_; rw [HX.out]; rintro r w1 ⟨rfl, hb1⟩; obtain ⟨hc1, hf1⟩ := bcell hb1; have hz1 : W.heap.size + 1 < w1.heap.size := (by have := hb1.size; simp at this; omega); have hz0 : W.heap.size < w1.heap.size := (by omega))
   | (go_at_call 50; refine (may_any _ _).mono ?_; rw [HM.out]; rintro r w2 ⟨rfl, rfl⟩))
  all_goals
   exact bodyPost_ret (v := .tuple #[capV _ b c d e f g h, .int .i64 0]) (by simp [results, Tryd.results32, go_sem, hc1, hz1]) rfl ⟨rfl, (by repeat (first | with_reducible exact Below.refl _ _ | with_reducible assumption | with_reducible refine below_drewN ?_ _ | with_reducible refine Below.drew ?_ | with_reducible refine bal ?_ _ | with_reducible refine bgo ?_ (by with_reducible assumption) | refine Below.setCell ?_ (by first | exact Nat.le_refl _ | (simp; done) | (simp; omega)) _))⟩
theorem copy_k3n (a b c d e f g h m : Int) (W : World) (hT : TabG W) (e1 : e ≤ 9223372036854775807) (hx : capB a b c d e f g h = true) (hm : mayB m = true) (ha : a = 3) (hn : maskN c m = 0) :
  Calls Tryd.prog 32 #[capV a b c d e f g h, .int .i64 m] W fun r W' => r = .returned (.tuple #[zcap, .int .i64 9]) ∧ Below W.heap.size W W' := by
 obtain ⟨c0, c1⟩ := cap_c hx (.inl ha)
 obtain ⟨m0, m1⟩ := mayB_of hm
 have HX := hid hx
 have HM := hid hm
 clear hx hm
 subst ha
 have HN := hid hn
 clear hn
 all_goals
  go_enter Tryd.func32, Tryd.ntmps32
  go_wp2_with (first
   | (go_at_call 45; refine (capMay _ _ _ _ _ _ _ _ _ (by exact hT.call (by repeat (first | with_reducible exact Below.refl _ _ | with_reducible assumption | with_reducible refine below_drewN ?_ _ | with_reducible refine Below.drew ?_ | with_reducible refine bal ?_ _ | with_reducible refine bgo ?_ (by with_reducible assumption) | refine Below.setCell ?_ (by first | exact Nat.le_refl _ | (simp; done) | (simp; omega)) _))) e1).mono ?_; rw [HX.out]; rintro r w1 ⟨rfl, hb1⟩; obtain ⟨hc1, hf1⟩ := bcell hb1; have hz1 : W.heap.size + 1 < w1.heap.size := (by have := hb1.size; simp at this; omega); have hz0 : W.heap.size < w1.heap.size := (by omega))
   | (go_at_call 50; refine (may_any _ _).mono ?_; rw [HM.out]; rintro r w2 ⟨rfl, rfl⟩)
   | (go_at_call 51; refine (kept_any _ _ _ _ _ _ _ _ _ _ c0 c1 m0 m1).mono ?_; rw [HN.out]; rintro r w3 ⟨rfl, hb3⟩; obtain ⟨hc3, hf3⟩ := bcell hb3; have hy3 := hb3.size; simp at hy3; have hz30 : W.heap.size < w3.heap.size := (by omega); have hz31 : W.heap.size + 1 < w3.heap.size := (by omega); have hz32 : w1.heap.size < w3.heap.size := (by omega); have hn1 : W.heap.size + 1 ≠ w1.heap.size := (by omega); have hn2 : w1.heap.size ≠ W.heap.size + 1 := (by omega); clear hy3))
  all_goals
   exact bodyPost_ret (v := .tuple #[zcap, .int .i64 9]) (by simp [results, Tryd.results32, go_sem, hc1, hz1, hc3, hz0, hz31, hz32, hn1, hn2]) rfl ⟨rfl, (by repeat (first | with_reducible exact Below.refl _ _ | with_reducible assumption | with_reducible refine below_drewN ?_ _ | with_reducible refine Below.drew ?_ | with_reducible refine bal ?_ _ | with_reducible refine bgo ?_ (by with_reducible assumption) | refine Below.setCell ?_ (by first | exact Nat.le_refl _ | (simp; done) | (simp; omega)) _))⟩
theorem copy_k3y (a b c d e f g h m : Int) (W : World) (hT : TabG W) (e1 : e ≤ 9223372036854775807) (hx : capB a b c d e f g h = true) (hm : mayB m = true) (ha : a = 3) (hn : maskN c m ≠ 0) :
  Calls Tryd.prog 32 #[capV a b c d e f g h, .int .i64 m] W fun r W' => r = .returned (.tuple #[capV a b (maskN c m) d e f 0 0, .int .i64 0]) ∧ Below W.heap.size W W' := by
 obtain ⟨c0, c1⟩ := cap_c hx (.inl ha)
 obtain ⟨m0, m1⟩ := mayB_of hm
 have HX := hid hx
 have HM := hid hm
 clear hx hm
 subst ha
 have hk := mask_bd c0 c1 m0 m1
 generalize hq : maskN c m = q at *
 have HN := hid hq
 clear hq
 have hn' : (q == 0) = false := beq_eq_false_iff_ne.2 hn
 clear hn
 all_goals
  go_enter Tryd.func32, Tryd.ntmps32
  go_wp2_with (first
   | (go_at_call 45; refine (capMay _ _ _ _ _ _ _ _ _ (by exact hT.call (by repeat (first | with_reducible exact Below.refl _ _ | with_reducible assumption | with_reducible refine below_drewN ?_ _ | with_reducible refine Below.drew ?_ | with_reducible refine bal ?_ _ | with_reducible refine bgo ?_ (by with_reducible assumption) | refine Below.setCell ?_ (by first | exact Nat.le_refl _ | (simp; done) | (simp; omega)) _))) e1).mono ?_; rw [HX.out]; rintro r w1 ⟨rfl, hb1⟩; obtain ⟨hc1, hf1⟩ := bcell hb1; have hz1 : W.heap.size + 1 < w1.heap.size := (by have := hb1.size; simp at this; omega); have hz0 : W.heap.size < w1.heap.size := (by omega))
   | (go_at_call 50; refine (may_any _ _).mono ?_; rw [HM.out]; rintro r w2 ⟨rfl, rfl⟩)
   | (go_at_call 51; refine (kept_any _ _ _ _ _ _ _ _ _ _ c0 c1 m0 m1).mono ?_; rw [HN.out]; rintro r w3 ⟨rfl, hb3⟩; obtain ⟨hc3, hf3⟩ := bcell hb3; have hy3 := hb3.size; simp at hy3; have hz30 : W.heap.size < w3.heap.size := (by omega); have hz31 : W.heap.size + 1 < w3.heap.size := (by omega); have hz32 : w1.heap.size < w3.heap.size := (by omega); have hn1 : W.heap.size + 1 ≠ w1.heap.size := (by omega); have hn2 : w1.heap.size ≠ W.heap.size + 1 := (by omega); clear hy3))
  all_goals
   exact bodyPost_ret (v := .tuple #[capV _ b q d e f 0 0, .int .i64 0]) (by simp [results, Tryd.results32, go_sem, hc1, hz1, hc3, hz0, hz31, hz32, hn1, hn2]) rfl ⟨rfl, (by repeat (first | with_reducible exact Below.refl _ _ | with_reducible assumption | with_reducible refine below_drewN ?_ _ | with_reducible refine Below.drew ?_ | with_reducible refine bal ?_ _ | with_reducible refine bgo ?_ (by with_reducible assumption) | refine Below.setCell ?_ (by first | exact Nat.le_refl _ | (simp; done) | (simp; omega)) _))⟩
theorem copy_k8 (a b c d e f g h m : Int) (W : World) (hT : TabG W) (e1 : e ≤ 9223372036854775807) (hx : capB a b c d e f g h = true) (hm : mayB m = true) (ha : a = 8) :
  Calls Tryd.prog 32 #[capV a b c d e f g h, .int .i64 m] W fun r W' => r = .returned (.tuple #[capV a b (maskN c m) d e f g h, .int .i64 0]) ∧ Below W.heap.size W W' := by
 obtain ⟨c0, c1⟩ := cap_c hx (.inr ha)
 obtain ⟨m0, m1⟩ := mayB_of hm
 have HX := hid hx
 have HM := hid hm
 clear hx hm
 subst ha
 generalize hq : maskN c m = q at *
 have HN := hid hq
 clear hq
 all_goals
  go_enter Tryd.func32, Tryd.ntmps32
  go_wp2_with (first
   | (go_at_call 45; refine (capMay _ _ _ _ _ _ _ _ _ (by exact hT.call (by repeat (first | with_reducible exact Below.refl _ _ | with_reducible assumption | with_reducible refine below_drewN ?_ _ | with_reducible refine Below.drew ?_ | with_reducible refine bal ?_ _ | with_reducible refine bgo ?_ (by with_reducible assumption) | refine Below.setCell ?_ (by first | exact Nat.le_refl _ | (simp; done) | (simp; omega)) _))) e1).mono ?_; rw [HX.out]; rintro r w1 ⟨rfl, hb1⟩; obtain ⟨hc1, hf1⟩ := bcell hb1; have hz1 : W.heap.size + 1 < w1.heap.size := (by have := hb1.size; simp at this; omega); have hz0 : W.heap.size < w1.heap.size := (by omega))
   | (go_at_call 50; refine (may_any _ _).mono ?_; rw [HM.out]; rintro r w2 ⟨rfl, rfl⟩)
   | (go_at_call 51; refine (kept_any _ _ _ _ _ _ _ _ _ _ c0 c1 m0 m1).mono ?_; rw [HN.out]; rintro r w3 ⟨rfl, hb3⟩; obtain ⟨hc3, hf3⟩ := bcell hb3; have hy3 := hb3.size; simp at hy3; have hz30 : W.heap.size < w3.heap.size := (by omega); have hz31 : W.heap.size + 1 < w3.heap.size := (by omega); have hz32 : w1.heap.size < w3.heap.size := (by omega); have hn1 : W.heap.size + 1 ≠ w1.heap.size := (by omega); have hn2 : w1.heap.size ≠ W.heap.size + 1 := (by omega); clear hy3))
  all_goals
   exact bodyPost_ret (v := .tuple #[capV _ b q d e f g h, .int .i64 0]) (by simp [results, Tryd.results32, go_sem, hc1, hz1, hc3, hz0, hz31, hz32, hn1, hn2]) rfl ⟨rfl, (by repeat (first | with_reducible exact Below.refl _ _ | with_reducible assumption | with_reducible refine below_drewN ?_ _ | with_reducible refine Below.drew ?_ | with_reducible refine bal ?_ _ | with_reducible refine bgo ?_ (by with_reducible assumption) | refine Below.setCell ?_ (by first | exact Nat.le_refl _ | (simp; done) | (simp; omega)) _))⟩
end CX
end
end Go.Proofs.YtekllgejmgoajaaDoor
