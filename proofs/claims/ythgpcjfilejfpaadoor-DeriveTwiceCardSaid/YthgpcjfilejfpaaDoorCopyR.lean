/- Chapter 14's own Copy, case by case. -/
import Derived.Test.YthgpcjfilejfpaaDoorCapA
import Derived.Test.YthgpcjfilejfpaaDoorDeriveK
import Derived.Test.YthgpcjfilejfpaaDoorDeriveM
import Derived.Test.YthgpcjfilejfpaaDoorCopy
import Derived.RegionTactic
namespace Go.Proofs.YthgpcjfilejfpaaDoor
set_option linter.unusedVariables false
set_option linter.unusedSimpArgs false
open Go.ChangeShapes Go.WideShapes Go.ChangeAt Go.RowKit

set_option maxRecDepth 100000 in
set_option maxHeartbeats 1000000 in
theorem rcopy_bad1 (a b c d e f g h m : Int) (W : World) (hx : capB a b c d e f g h = false) :
    Calls Tryd.prog 26 #[capV a b c d e f g h, .int .i64 m] W fun r W' => r = .returned (.tuple #[zcap, .int .i64 2]) ∧ Below W.heap.size W W' := by
  have HX := Lib.hid hx
  clear hx
  all_goals
    go_enter Tryd.func26, Tryd.ntmps26
    go_wp2_with (first
      | (go_at_call 16; refine (refMay13 _ _ _ _ _ _ _ _ _).mono ?_; rw [HX.out]; rintro r w1 ⟨rfl, hb1⟩; obtain ⟨hc1, hf1⟩ := bcell hb1; have hz1 : W.heap.size + 1 < w1.heap.size := (by have := hb1.size; simp at this; omega); have hz0 : W.heap.size < w1.heap.size := (by omega); have p2 : w1.cell? ⟨W.heap.size, 2, none⟩ = some (.int .i64 c) := ((hc1 _ _ (by simp; omega)).trans (by simp)); have p6 : w1.cell? ⟨W.heap.size, 6, none⟩ = some (.int .i64 g) := ((hc1 _ _ (by simp; omega)).trans (by simp)); have p7 : w1.cell? ⟨W.heap.size, 7, none⟩ = some (.int .i64 h) := ((hc1 _ _ (by simp; omega)).trans (by simp)))
      | (go_at_call 43; refine (refMay9 _ _).mono ?_; rw [HM.out]; rintro r w2 ⟨rfl, rfl⟩))
    all_goals
      exact bodyPost_ret (v := .tuple #[zcap, .int .i64 2]) (by simp [results, Tryd.results26, go_sem, hc1, hz1]) rfl ⟨rfl, (by repeat (first | with_reducible exact Below.refl _ _ | with_reducible assumption | with_reducible refine below_drewN ?_ _ | with_reducible refine Below.drew ?_ | with_reducible refine bal ?_ _ | with_reducible refine bgo ?_ (by with_reducible assumption) | refine Below.setCell ?_ (by first | exact Nat.le_refl _ | (simp; done) | (simp; omega)) _))⟩
set_option maxRecDepth 100000 in
set_option maxHeartbeats 1000000 in
theorem rcopy_bad2 (a b c d e f g h m : Int) (W : World) (hx : capB a b c d e f g h = true) (hm : mayB m = false) :
    Calls Tryd.prog 26 #[capV a b c d e f g h, .int .i64 m] W fun r W' => r = .returned (.tuple #[zcap, .int .i64 2]) ∧ Below W.heap.size W W' := by
  have HX := Lib.hid hx
  have HM := Lib.hid hm
  clear hx hm
  all_goals
    go_enter Tryd.func26, Tryd.ntmps26
    go_wp2_with (first
      | (go_at_call 16; refine (refMay13 _ _ _ _ _ _ _ _ _).mono ?_; rw [HX.out]; rintro r w1 ⟨rfl, hb1⟩; obtain ⟨hc1, hf1⟩ := bcell hb1; have hz1 : W.heap.size + 1 < w1.heap.size := (by have := hb1.size; simp at this; omega); have hz0 : W.heap.size < w1.heap.size := (by omega); have p2 : w1.cell? ⟨W.heap.size, 2, none⟩ = some (.int .i64 c) := ((hc1 _ _ (by simp; omega)).trans (by simp)); have p6 : w1.cell? ⟨W.heap.size, 6, none⟩ = some (.int .i64 g) := ((hc1 _ _ (by simp; omega)).trans (by simp)); have p7 : w1.cell? ⟨W.heap.size, 7, none⟩ = some (.int .i64 h) := ((hc1 _ _ (by simp; omega)).trans (by simp)))
      | (go_at_call 43; refine (refMay9 _ _).mono ?_; rw [HM.out]; rintro r w2 ⟨rfl, rfl⟩))
    all_goals
      exact bodyPost_ret (v := .tuple #[zcap, .int .i64 2]) (by simp [results, Tryd.results26, go_sem, hc1, hz1]) rfl ⟨rfl, (by repeat (first | with_reducible exact Below.refl _ _ | with_reducible assumption | with_reducible refine below_drewN ?_ _ | with_reducible refine Below.drew ?_ | with_reducible refine bal ?_ _ | with_reducible refine bgo ?_ (by with_reducible assumption) | refine Below.setCell ?_ (by first | exact Nat.le_refl _ | (simp; done) | (simp; omega)) _))⟩
set_option maxRecDepth 100000 in
set_option maxHeartbeats 1000000 in
theorem rcopy_k0 (a b c d e f g h m : Int) (W : World) (hx : capB a b c d e f g h = true) (hm : mayB m = true) (ha : a = 0) :
    Calls Tryd.prog 26 #[capV a b c d e f g h, .int .i64 m] W fun r W' => r = .returned (.tuple #[zcap, .int .i64 10]) ∧ Below W.heap.size W W' := by
  have HX := Lib.hid hx
  have HM := Lib.hid hm
  clear hx hm
  subst ha
  all_goals
    go_enter Tryd.func26, Tryd.ntmps26
    go_wp2_with (first
      | (go_at_call 16; refine (refMay13 _ _ _ _ _ _ _ _ _).mono ?_; rw [HX.out]; rintro r w1 ⟨rfl, hb1⟩; obtain ⟨hc1, hf1⟩ := bcell hb1; have hz1 : W.heap.size + 1 < w1.heap.size := (by have := hb1.size; simp at this; omega); have hz0 : W.heap.size < w1.heap.size := (by omega); have p2 : w1.cell? ⟨W.heap.size, 2, none⟩ = some (.int .i64 c) := ((hc1 _ _ (by simp; omega)).trans (by simp)); have p6 : w1.cell? ⟨W.heap.size, 6, none⟩ = some (.int .i64 g) := ((hc1 _ _ (by simp; omega)).trans (by simp)); have p7 : w1.cell? ⟨W.heap.size, 7, none⟩ = some (.int .i64 h) := ((hc1 _ _ (by simp; omega)).trans (by simp)))
      | (go_at_call 43; refine (refMay9 _ _).mono ?_; rw [HM.out]; rintro r w2 ⟨rfl, rfl⟩))
    all_goals
      exact bodyPost_ret (v := .tuple #[zcap, .int .i64 10]) (by simp [results, Tryd.results26, go_sem, hc1, hz1]) rfl ⟨rfl, (by repeat (first | with_reducible exact Below.refl _ _ | with_reducible assumption | with_reducible refine below_drewN ?_ _ | with_reducible refine Below.drew ?_ | with_reducible refine bal ?_ _ | with_reducible refine bgo ?_ (by with_reducible assumption) | refine Below.setCell ?_ (by first | exact Nat.le_refl _ | (simp; done) | (simp; omega)) _))⟩
set_option maxRecDepth 100000 in
set_option maxHeartbeats 1000000 in
theorem rcopy_k1 (a b c d e f g h m : Int) (W : World) (hx : capB a b c d e f g h = true) (hm : mayB m = true) (ha : a = 1 ∨ a = 7) :
    Calls Tryd.prog 26 #[capV a b c d e f g h, .int .i64 m] W fun r W' => r = .returned (.tuple #[zcap, .int .i64 8]) ∧ Below W.heap.size W W' := by
  have HX := Lib.hid hx
  have HM := Lib.hid hm
  clear hx hm
  rcases ha with rfl | rfl
  all_goals
    go_enter Tryd.func26, Tryd.ntmps26
    go_wp2_with (first
      | (go_at_call 16; refine (refMay13 _ _ _ _ _ _ _ _ _).mono ?_; rw [HX.out]; rintro r w1 ⟨rfl, hb1⟩; obtain ⟨hc1, hf1⟩ := bcell hb1; have hz1 : W.heap.size + 1 < w1.heap.size := (by have := hb1.size; simp at this; omega); have hz0 : W.heap.size < w1.heap.size := (by omega); have p2 : w1.cell? ⟨W.heap.size, 2, none⟩ = some (.int .i64 c) := ((hc1 _ _ (by simp; omega)).trans (by simp)); have p6 : w1.cell? ⟨W.heap.size, 6, none⟩ = some (.int .i64 g) := ((hc1 _ _ (by simp; omega)).trans (by simp)); have p7 : w1.cell? ⟨W.heap.size, 7, none⟩ = some (.int .i64 h) := ((hc1 _ _ (by simp; omega)).trans (by simp)))
      | (go_at_call 43; refine (refMay9 _ _).mono ?_; rw [HM.out]; rintro r w2 ⟨rfl, rfl⟩))
    all_goals
      exact bodyPost_ret (v := .tuple #[zcap, .int .i64 8]) (by simp [results, Tryd.results26, go_sem, hc1, hz1]) rfl ⟨rfl, (by repeat (first | with_reducible exact Below.refl _ _ | with_reducible assumption | with_reducible refine below_drewN ?_ _ | with_reducible refine Below.drew ?_ | with_reducible refine bal ?_ _ | with_reducible refine bgo ?_ (by with_reducible assumption) | refine Below.setCell ?_ (by first | exact Nat.le_refl _ | (simp; done) | (simp; omega)) _))⟩
set_option maxRecDepth 100000 in
set_option maxHeartbeats 1000000 in
theorem rcopy_rest (a b c d e f g h m : Int) (W : World) (hx : capB a b c d e f g h = true) (hm : mayB m = true) (ha : a = 2 ∨ a = 4 ∨ a = 5 ∨ a = 6 ∨ a = 9) :
    Calls Tryd.prog 26 #[capV a b c d e f g h, .int .i64 m] W fun r W' => r = .returned (.tuple #[capV a b c d e f g h, .int .i64 0]) ∧ Below W.heap.size W W' := by
  have HX := Lib.hid hx
  have HM := Lib.hid hm
  clear hx hm
  rcases ha with rfl | rfl | rfl | rfl | rfl
  all_goals
    go_enter Tryd.func26, Tryd.ntmps26
    go_wp2_with (first
      | (go_at_call 16; refine (refMay13 _ _ _ _ _ _ _ _ _).mono ?_; rw [HX.out]; rintro r w1 ⟨rfl, hb1⟩; obtain ⟨hc1, hf1⟩ := bcell hb1; have hz1 : W.heap.size + 1 < w1.heap.size := (by have := hb1.size; simp at this; omega); have hz0 : W.heap.size < w1.heap.size := (by omega); have p2 : w1.cell? ⟨W.heap.size, 2, none⟩ = some (.int .i64 c) := ((hc1 _ _ (by simp; omega)).trans (by simp)); have p6 : w1.cell? ⟨W.heap.size, 6, none⟩ = some (.int .i64 g) := ((hc1 _ _ (by simp; omega)).trans (by simp)); have p7 : w1.cell? ⟨W.heap.size, 7, none⟩ = some (.int .i64 h) := ((hc1 _ _ (by simp; omega)).trans (by simp)))
      | (go_at_call 43; refine (refMay9 _ _).mono ?_; rw [HM.out]; rintro r w2 ⟨rfl, rfl⟩))
    all_goals
      exact bodyPost_ret (v := .tuple #[capV _ b c d e f g h, .int .i64 0]) (by simp [results, Tryd.results26, go_sem, hc1, hz1]) rfl ⟨rfl, (by repeat (first | with_reducible exact Below.refl _ _ | with_reducible assumption | with_reducible refine below_drewN ?_ _ | with_reducible refine Below.drew ?_ | with_reducible refine bal ?_ _ | with_reducible refine bgo ?_ (by with_reducible assumption) | refine Below.setCell ?_ (by first | exact Nat.le_refl _ | (simp; done) | (simp; omega)) _))⟩
set_option maxRecDepth 100000 in
set_option maxHeartbeats 1000000 in
theorem rcopy_k3n (a b c d e f g h m : Int) (W : World) (hx : capB a b c d e f g h = true) (hm : mayB m = true) (ha : a = 3) (hn : maskN c m = 0) :
    Calls Tryd.prog 26 #[capV a b c d e f g h, .int .i64 m] W fun r W' => r = .returned (.tuple #[zcap, .int .i64 9]) ∧ Below W.heap.size W W' := by
  obtain ⟨c0, c1⟩ := cap_c hx (.inl ha)
  obtain ⟨m0, m1⟩ := mayB_of hm
  have HX := Lib.hid hx
  have HM := Lib.hid hm
  clear hx hm
  subst ha
  have HN := Lib.hid hn
  clear hn
  all_goals
    go_enter Tryd.func26, Tryd.ntmps26
    go_wp2_with (first
      | (go_at_call 16; refine (refMay13 _ _ _ _ _ _ _ _ _).mono ?_; rw [HX.out]; rintro r w1 ⟨rfl, hb1⟩; obtain ⟨hc1, hf1⟩ := bcell hb1; have hz1 : W.heap.size + 1 < w1.heap.size := (by have := hb1.size; simp at this; omega); have hz0 : W.heap.size < w1.heap.size := (by omega); have p2 : w1.cell? ⟨W.heap.size, 2, none⟩ = some (.int .i64 c) := ((hc1 _ _ (by simp; omega)).trans (by simp)); have p6 : w1.cell? ⟨W.heap.size, 6, none⟩ = some (.int .i64 g) := ((hc1 _ _ (by simp; omega)).trans (by simp)); have p7 : w1.cell? ⟨W.heap.size, 7, none⟩ = some (.int .i64 h) := ((hc1 _ _ (by simp; omega)).trans (by simp)))
      | (go_at_call 43; refine (refMay9 _ _).mono ?_; rw [HM.out]; rintro r w2 ⟨rfl, rfl⟩)
      | (go_at_call 44; refine (mask9 _ _ _ c0 c1 m0 m1).mono ?_; rw [HN.out]; rintro r w3 ⟨rfl, rfl⟩))
    all_goals
      exact bodyPost_ret (v := .tuple #[zcap, .int .i64 9]) (by simp [results, Tryd.results26, go_sem, hc1, hz1]) rfl ⟨rfl, (by repeat (first | with_reducible exact Below.refl _ _ | with_reducible assumption | with_reducible refine below_drewN ?_ _ | with_reducible refine Below.drew ?_ | with_reducible refine bal ?_ _ | with_reducible refine bgo ?_ (by with_reducible assumption) | refine Below.setCell ?_ (by first | exact Nat.le_refl _ | (simp; done) | (simp; omega)) _))⟩
set_option maxRecDepth 100000 in
set_option maxHeartbeats 1000000 in
theorem rcopy_k3y (a b c d e f g h m : Int) (W : World) (hx : capB a b c d e f g h = true) (hm : mayB m = true) (ha : a = 3) (hn : maskN c m ≠ 0) :
    Calls Tryd.prog 26 #[capV a b c d e f g h, .int .i64 m] W fun r W' => r = .returned (.tuple #[capV a b (maskN c m) d e f 0 0, .int .i64 0]) ∧ Below W.heap.size W W' := by
  obtain ⟨c0, c1⟩ := cap_c hx (.inl ha)
  obtain ⟨m0, m1⟩ := mayB_of hm
  have HX := Lib.hid hx
  have HM := Lib.hid hm
  clear hx hm
  subst ha
  have hk := mask_bd c0 c1 m0 m1
  generalize hq : maskN c m = q at *
  have HN := Lib.hid hq
  clear hq
  have hn' : (q == 0) = false := beq_eq_false_iff_ne.2 hn
  clear hn
  all_goals
    go_enter Tryd.func26, Tryd.ntmps26
    go_wp2_with (first
      | (go_at_call 16; refine (refMay13 _ _ _ _ _ _ _ _ _).mono ?_; rw [HX.out]; rintro r w1 ⟨rfl, hb1⟩; obtain ⟨hc1, hf1⟩ := bcell hb1; have hz1 : W.heap.size + 1 < w1.heap.size := (by have := hb1.size; simp at this; omega); have hz0 : W.heap.size < w1.heap.size := (by omega); have p2 : w1.cell? ⟨W.heap.size, 2, none⟩ = some (.int .i64 c) := ((hc1 _ _ (by simp; omega)).trans (by simp)); have p6 : w1.cell? ⟨W.heap.size, 6, none⟩ = some (.int .i64 g) := ((hc1 _ _ (by simp; omega)).trans (by simp)); have p7 : w1.cell? ⟨W.heap.size, 7, none⟩ = some (.int .i64 h) := ((hc1 _ _ (by simp; omega)).trans (by simp)))
      | (go_at_call 43; refine (refMay9 _ _).mono ?_; rw [HM.out]; rintro r w2 ⟨rfl, rfl⟩)
      | (go_at_call 44; refine (mask9 _ _ _ c0 c1 m0 m1).mono ?_; rw [HN.out]; rintro r w3 ⟨rfl, rfl⟩))
    all_goals
      exact bodyPost_ret (v := .tuple #[capV _ b q d e f 0 0, .int .i64 0]) (by simp [results, Tryd.results26, go_sem, hc1, hz1]) rfl ⟨rfl, (by repeat (first | with_reducible exact Below.refl _ _ | with_reducible assumption | with_reducible refine below_drewN ?_ _ | with_reducible refine Below.drew ?_ | with_reducible refine bal ?_ _ | with_reducible refine bgo ?_ (by with_reducible assumption) | refine Below.setCell ?_ (by first | exact Nat.le_refl _ | (simp; done) | (simp; omega)) _))⟩
set_option maxRecDepth 100000 in
set_option maxHeartbeats 1000000 in
theorem rcopy_k8 (a b c d e f g h m : Int) (W : World) (hx : capB a b c d e f g h = true) (hm : mayB m = true) (ha : a = 8) :
    Calls Tryd.prog 26 #[capV a b c d e f g h, .int .i64 m] W fun r W' => r = .returned (.tuple #[capV a b (maskN c m) d e f g h, .int .i64 0]) ∧ Below W.heap.size W W' := by
  obtain ⟨c0, c1⟩ := cap_c hx (.inr ha)
  obtain ⟨m0, m1⟩ := mayB_of hm
  have HX := Lib.hid hx
  have HM := Lib.hid hm
  clear hx hm
  subst ha
  generalize hq : maskN c m = q at *
  have HN := Lib.hid hq
  clear hq
  all_goals
    go_enter Tryd.func26, Tryd.ntmps26
    go_wp2_with (first
      | (go_at_call 16; refine (refMay13 _ _ _ _ _ _ _ _ _).mono ?_; rw [HX.out]; rintro r w1 ⟨rfl, hb1⟩; obtain ⟨hc1, hf1⟩ := bcell hb1; have hz1 : W.heap.size + 1 < w1.heap.size := (by have := hb1.size; simp at this; omega); have hz0 : W.heap.size < w1.heap.size := (by omega); have p2 : w1.cell? ⟨W.heap.size, 2, none⟩ = some (.int .i64 c) := ((hc1 _ _ (by simp; omega)).trans (by simp)); have p6 : w1.cell? ⟨W.heap.size, 6, none⟩ = some (.int .i64 g) := ((hc1 _ _ (by simp; omega)).trans (by simp)); have p7 : w1.cell? ⟨W.heap.size, 7, none⟩ = some (.int .i64 h) := ((hc1 _ _ (by simp; omega)).trans (by simp)))
      | (go_at_call 43; refine (refMay9 _ _).mono ?_; rw [HM.out]; rintro r w2 ⟨rfl, rfl⟩)
      | (go_at_call 44; refine (mask9 _ _ _ c0 c1 m0 m1).mono ?_; rw [HN.out]; rintro r w3 ⟨rfl, rfl⟩))
    all_goals
      exact bodyPost_ret (v := .tuple #[capV _ b q d e f g h, .int .i64 0]) (by simp [results, Tryd.results26, go_sem, hc1, hz1]) rfl ⟨rfl, (by repeat (first | with_reducible exact Below.refl _ _ | with_reducible assumption | with_reducible refine below_drewN ?_ _ | with_reducible refine Below.drew ?_ | with_reducible refine bal ?_ _ | with_reducible refine bgo ?_ (by with_reducible assumption) | refine Below.setCell ?_ (by first | exact Nat.le_refl _ | (simp; done) | (simp; omega)) _))⟩
end Go.Proofs.YthgpcjfilejfpaaDoor
