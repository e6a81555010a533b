import Derived.Test.YtchjfeafkmpmbaaGreatDoorQkb
import Derived.RegionTactic
import Derived.LoopTactic
import Derived.Deep.QuietTactic
import Derived.BigQuiet
import Derived.Lib.Hide
import Derived.RangeFuncNested
import Derived.LoopIn
import Derived.Stop.RegionWithIn
namespace Go.Proofs.YtchjfeafkmpmbaaGreatDoor
set_option linter.unusedVariables false
set_option linter.unusedSimpArgs false
set_option maxRecDepth 100000
set_option maxHeartbeats 8000000
open Lib (hid)
open Go.ChangeShapes Go.WideShapes Go.ChangeAt Go.RowKit Go.Shelf
section
namespace CX
theorem node_may (b c d e f g h : Int) (W : World) (hT : TabG W) (e1 : e ≤ 9223372036854775807) : Calls Tryz.prog 15 #[capV 2 b c d e f g h] W fun x W' => x = .returned (.bool (capB 2 b c d e f g h)) ∧ Below W.heap.size W W' := by
 cases ho : objB b
 all_goals
  go_enter Tryz.func15, Tryz.ntmps15
  go_wp2
  go_region
  all_goals go_wp2_with (first
   | (go_at_call 57; refine (obj_any _ _ _ _ _ _ _ _ _).mono ?_; rw [ho]; rintro x w1 ⟨rfl, hb1⟩; obtain ⟨hc1, hf1⟩ := bcell hb1)
   | (go_at_call 58; refine (guard_any _ _ _ _ _ _ _ _ _ (by exact hT.call (by repeat (first | exact Below.refl _ _ | assumption | refine below_drewN ?_ _ | refine Below.setCell ?_ (by first | exact Nat.le_refl _ | (simp; done) | (simp; omega)) _ | refine bal ?_ _ | refine bgo ?_ (by assumption)))) e1).mono ?_; rintro x w2 ⟨rfl, hb2⟩))
  all_goals
   go_ret
   exact ⟨ret_bool (by simp [capB, *]), (by repeat (first | exact Below.refl _ _ | assumption | refine below_drewN ?_ _ | refine Below.setCell ?_ (by first | exact Nat.le_refl _ | (simp; done) | (simp; omega)) _ | refine bal ?_ _ | refine bgo ?_ (by assumption)))⟩
theorem frame_may (b c d e f g h : Int) (W : World) : Calls Tryz.prog 15 #[capV 3 b c d e f g h] W fun x W' => x = .returned (.bool (capB 3 b c d e f g h)) ∧ Below W.heap.size W W' := by
 cases ho : objB b
 all_goals
  go_enter Tryz.func15, Tryz.ntmps15
  go_wp2
  go_region
  all_goals go_wp2_with (first
   | (go_at_call 57; refine (obj_any _ _ _ _ _ _ _ _ _).mono ?_; rw [ho]; rintro x w1 ⟨rfl, hb1⟩; obtain ⟨hc1, hf1⟩ := bcell hb1)
   | (go_at_call 59; refine (frame_any _ _ _ _ _ _ _ _ _).mono ?_; rintro x w2 ⟨rfl, hb2⟩))
  all_goals
   go_ret
   exact ⟨ret_bool (by simp [capB, *]), (by repeat (first | exact Below.refl _ _ | assumption | refine below_drewN ?_ _ | refine Below.setCell ?_ (by first | exact Nat.le_refl _ | (simp; done) | (simp; omega)) _ | refine bal ?_ _ | refine bgo ?_ (by assumption)))⟩
theorem end_may (b c d e f g h : Int) (W : World) : Calls Tryz.prog 15 #[capV 8 b c d e f g h] W fun x W' => x = .returned (.bool (capB 8 b c d e f g h)) ∧ Below W.heap.size W W' := by
 cases ho : objB b <;> cases hm : mayB c
 all_goals
  go_enter Tryz.func15, Tryz.ntmps15
  go_wp2
  go_region
  all_goals go_wp2_with (first
   | (go_at_call 57; refine (obj_any _ _ _ _ _ _ _ _ _).mono ?_; rw [ho]; rintro x w1 ⟨rfl, hb1⟩; obtain ⟨hc1, hf1⟩ := bcell hb1)
   | (go_at_call 60; refine (may_any _ _).mono ?_; rw [hm]; rintro x w2 ⟨rfl, rfl⟩))
  all_goals
   go_ret
   exact ⟨ret_bool (by simp [capB, *]), (by repeat (first | exact Below.refl _ _ | assumption | refine below_drewN ?_ _ | refine Below.setCell ?_ (by first | exact Nat.le_refl _ | (simp; done) | (simp; omega)) _ | refine bal ?_ _ | refine bgo ?_ (by assumption)))⟩
theorem no_may (a b c d e f g h : Int) (W : World) (ha : a < 0 ∨ 9 < a) : Calls Tryz.prog 15 #[capV a b c d e f g h] W fun x W' => x = .returned (.bool (capB a b c d e f g h)) ∧ Below W.heap.size W W' := by
 have hk : capB a b c d e f g h = false := by
  unfold capB
  rw [if_neg (by omega), if_neg (by omega), if_neg (by omega), if_neg (by omega), if_neg (by omega)]
 rw [hk]
 have k0 : (a == 0) = false := beq_eq_false_iff_ne.2 (by omega)
 have k1 : (a == 1) = false := beq_eq_false_iff_ne.2 (by omega)
 have k2 : (a == 2) = false := beq_eq_false_iff_ne.2 (by omega)
 have k3 : (a == 3) = false := beq_eq_false_iff_ne.2 (by omega)
 have k4 : (a == 4) = false := beq_eq_false_iff_ne.2 (by omega)
 have k5 : (a == 5) = false := beq_eq_false_iff_ne.2 (by omega)
 have k6 : (a == 6) = false := beq_eq_false_iff_ne.2 (by omega)
 have k7 : (a == 7) = false := beq_eq_false_iff_ne.2 (by omega)
 have k8 : (a == 8) = false := beq_eq_false_iff_ne.2 (by omega)
 have k9 : (a == 9) = false := beq_eq_false_iff_ne.2 (by omega)
 clear hk ha
 go_enter Tryz.func15, Tryz.ntmps15
 go_wp2
 go_ret
 exact ⟨rfl, (by repeat (first | exact Below.refl _ _ | assumption | refine below_drewN ?_ _ | refine Below.setCell ?_ (by first | exact Nat.le_refl _ | (simp; done) | (simp; omega)) _ | refine bal ?_ _ | refine bgo ?_ (by assumption)))⟩
theorem pow_bd {k : Nat} (h : k ≤ 12) : 1 ≤ 2 ^ k ∧ 2 ^ k ≤ 4096 := ⟨Nat.pos_of_ne_zero (by simp), Nat.pow_le_pow_right (by decide) h⟩
theorem power_any (n : Nat) (W : World) (hn : n ≤ 12) : Calls Tryz.prog 125 #[.int .i64 n] W fun x W' => x = .returned (.int .i64 ((2 ^ n : Nat) : Int)) ∧ W = W' := by
 go_enter Tryz.func125, Tryz.ntmps125
 go_wp2
 go_loop [3, 4] (fun v i => ∃ k : Nat, k ≤ n ∧ i = .int .i64 k ∧ v = .int .i64 ((2 ^ k : Nat) : Int)) (fun _ i => n - (intOf i).toNat)
 case atStart => exact ⟨0, Nat.zero_le _, rfl, rfl⟩
 case round =>
  obtain ⟨k, hk, rfl, rfl⟩ := hrel
  by_cases hlt : k < n
  ·have hb := pow_bd (k := k) (by omega)
   have hs : 2 ^ (k + 1) = 2 ^ k * 2 := Nat.pow_succ 2 k
   have HS := hid hs
   clear hs
   obtain ⟨h1, h2⟩ := hb
   generalize hp : 2 ^ k = p at *
   go_wp2
   go_round
   case rel => exact ⟨k + 1, by omega, by go_num, by rw [HS.out]; go_num⟩
   case measure => simp [intOf]; omega
  ·obtain rfl : k = n := by omega
   go_wp2
   go_ret
   exact ⟨rfl, rfl⟩
theorem refMay13_none (a b c d e f g h : Int) (W : World) (ha : a = 0 ∨ a = 7) : Calls Tryz.prog 110 #[capV a b c d e f g h] W fun x W' => x = .returned (.bool (capB a b c d e f g h)) ∧ Below W.heap.size W W' := by
 rcases ha with rfl | rfl
 all_goals
  go_enter Tryz.func110, Tryz.ntmps110
  go_wp2
  all_goals
   go_ret
   exact ⟨ret_bool (by simp [capB, *]), (by repeat (first | exact Below.refl _ _ | assumption | refine below_drewN ?_ _ | refine Below.setCell ?_ (by first | exact Nat.le_refl _ | (simp; done) | (simp; omega)) _ | refine bal ?_ _ | refine bgo ?_ (by assumption)))⟩
theorem refMay13_plain (a b c d e f g h : Int) (W : World) (ha : a = 1 ∨ a = 4 ∨ a = 5 ∨ a = 6 ∨ a = 9) : Calls Tryz.prog 110 #[capV a b c d e f g h] W fun x W' => x = .returned (.bool (capB a b c d e f g h)) ∧ Below W.heap.size W W' := by
 cases ho : objB b
 all_goals rcases ha with rfl | rfl | rfl | rfl | rfl
 all_goals
  go_enter Tryz.func110, Tryz.ntmps110
  go_wp2_with (first | (go_at_call 124; refine (obj13_any _ _).mono ?_; rw [ho]; rintro x w1 ⟨rfl, rfl⟩))
  all_goals
   go_ret
   exact ⟨ret_bool (by simp [capB, *]), (by repeat (first | exact Below.refl _ _ | assumption | refine below_drewN ?_ _ | refine Below.setCell ?_ (by first | exact Nat.le_refl _ | (simp; done) | (simp; omega)) _ | refine bal ?_ _ | refine bgo ?_ (by assumption)))⟩
theorem same_q {P : Program} {f : FuncId} {args : Array Value} {w : World} {v : Value} (h : Calls P f args w fun e w' => e = .returned v ∧ w = w') : Calls P f args w fun e w' => e = .returned v ∧ w' = w := h.mono fun _ _ ⟨a, b⟩ => ⟨a, b.symm⟩
theorem obj13_is (b : Int) {v : Bool} (h : objB b = v) (W : World) : Calls Tryz.prog 124 #[.int .i64 b] W fun x W' => x = .returned (.bool v) ∧ W = W' := h ▸ obj13_any b W
theorem two_caps {W w2 : World} {T : TypeId} {a b c d e f g h a' b' c' d' e' f' g' h' : Int} (hw : w2 = ((W.alloc (Obj.cells #[Value.int .i64 a, Value.int .i64 b, Value.int .i64 c, Value.int .u64 d, Value.int .i64 e, Value.int .i64 f, Value.int .i64 g, Value.int .i64 h] T)).alloc (Obj.cells #[Value.int .i64 a', Value.int .i64 b', Value.int .i64 c', Value.int .u64 d', Value.int .i64 e', Value.int .i64 f', Value.int .i64 g', Value.int .i64 h'] T)).drew) :
  (w2.cell? ⟨W.heap.size, 0, none⟩ = some (.int .i64 a) ∧ w2.cell? ⟨W.heap.size, 1, none⟩ = some (.int .i64 b) ∧ w2.cell? ⟨W.heap.size, 2, none⟩ = some (.int .i64 c) ∧ w2.cell? ⟨W.heap.size, 3, none⟩ = some (.int .u64 d) ∧ w2.cell? ⟨W.heap.size, 4, none⟩ = some (.int .i64 e) ∧ w2.cell? ⟨W.heap.size, 5, none⟩ = some (.int .i64 f) ∧ w2.cell? ⟨W.heap.size, 6, none⟩ = some (.int .i64 g) ∧ w2.cell? ⟨W.heap.size, 7, none⟩ = some (.int .i64 h)) ∧
  (w2.cell? ⟨W.heap.size + 1, 0, none⟩ = some (.int .i64 a') ∧ w2.cell? ⟨W.heap.size + 1, 1, none⟩ = some (.int .i64 b') ∧ w2.cell? ⟨W.heap.size + 1, 2, none⟩ = some (.int .i64 c') ∧ w2.cell? ⟨W.heap.size + 1, 3, none⟩ = some (.int .u64 d') ∧ w2.cell? ⟨W.heap.size + 1, 4, none⟩ = some (.int .i64 e') ∧ w2.cell? ⟨W.heap.size + 1, 5, none⟩ = some (.int .i64 f') ∧ w2.cell? ⟨W.heap.size + 1, 6, none⟩ = some (.int .i64 g') ∧ w2.cell? ⟨W.heap.size + 1, 7, none⟩ = some (.int .i64 h')) ∧ Below W.heap.size W w2 := by
 subst hw
 refine ⟨⟨?_, ?_, ?_, ?_, ?_, ?_, ?_, ?_⟩, ⟨?_, ?_, ?_, ?_, ?_, ?_, ?_, ?_⟩, (bal (bal (Below.refl _ _) _) _).drew⟩
 all_goals simp
theorem refMay13_node0 (b c d e f g h : Int) (W : World) (hn : objB b = false ∨ (objB b = true ∧ c ≠ 0) ∨ (objB b = true ∧ c = 0 ∧ d ≠ 0) ∨ (objB b = true ∧ c = 0 ∧ d = 0 ∧ g ≠ 0) ∨ (objB b = true ∧ c = 0 ∧ d = 0 ∧ g = 0 ∧ h ≠ 0) ∨ (objB b = true ∧ c = 0 ∧ d = 0 ∧ g = 0 ∧ h = 0 ∧ f < 0) ∨
  (objB b = true ∧ c = 0 ∧ d = 0 ∧ g = 0 ∧ h = 0 ∧ 0 ≤ f ∧ 12 < f) ∨ (objB b = true ∧ c = 0 ∧ d = 0 ∧ g = 0 ∧ h = 0 ∧ 0 ≤ f ∧ f ≤ 12 ∧ e < 0)) : Calls Tryz.prog 110 #[capV 2 b c d e f g h] W fun x W' => x = .returned (.bool (capB 2 b c d e f g h)) ∧ Below W.heap.size W W' := by
 have hk : capB 2 b c d e f g h = false := by
  unfold capB guardB
  simp only [Bool.and_eq_false_iff, decide_eq_false_iff_not, Int.reduceEq, or_self, if_false, if_true]
  rcases hn with hn | ⟨hn, h1⟩ | ⟨hn, h1, h2⟩ | ⟨hn, h1, h2, h3⟩ | ⟨hn, h1, h2, h3, h4⟩ | ⟨hn, h1, h2, h3, h4, h5⟩ | ⟨hn, h1, h2, h3, h4, h5, h6⟩ | ⟨hn, h1, h2, h3, h4, h5, h6, h7⟩
  ·exact .inl (.inl hn)
  all_goals first
   | exact .inr (by omega)
   | exact .inl (.inr (by omega))
 rw [hk]
 clear hk
 have HN := hid hn
 clear hn
 go_enter Tryz.func110, Tryz.ntmps110
 go_wp2
 go_region
 go_wp2
 obtain ⟨w2, hw2⟩ : ∃ x, x = ((W.alloc (Obj.cells #[Value.int .i64 2, Value.int .i64 b, Value.int .i64 c, Value.int .u64 d, Value.int .i64 e, Value.int .i64 f, Value.int .i64 g, Value.int .i64 h] 33)).alloc (Obj.cells #[Value.int .i64 2, Value.int .i64 b, Value.int .i64 0, Value.int .u64 0, Value.int .i64 e, Value.int .i64 f, Value.int .i64 0, Value.int .i64 0] 33)).drew := ⟨_, rfl⟩
 rw [← hw2]
 obtain ⟨⟨p0, p1, p2, p3, p4, p5, p6, p7⟩, ⟨q0, q1, q2, q3, q4, q5, q6, q7⟩, hb2⟩ := two_caps hw2
 clear hw2
 have hn := HN.out
 clear HN
 rcases hn with hn | ⟨hn, h1⟩ | ⟨hn, rfl, h2⟩ | ⟨hn, rfl, rfl, h3⟩ | ⟨hn, rfl, rfl, rfl, h4⟩ | ⟨hn, rfl, rfl, rfl, rfl, h5⟩ | ⟨hn, rfl, rfl, rfl, rfl, h5, h6⟩ | ⟨hn, rfl, rfl, rfl, rfl, h5, h6, h7⟩
 all_goals first | (have k1 : decide (0 ≤ f) = false := decide_eq_false (by omega)) | (have k1 : decide (f ≤ 12) = false := decide_eq_false (by omega)) | (have k1 : decide (0 ≤ e) = false := decide_eq_false (by omega)) | skip
 all_goals
  have HN := hid hn
  clear hn
  go_quiet ((go_at_call 124; exact Calls.quiet_of_same (same_q (obj13_is _ HN.out _))))
  all_goals
   go_wp2
   go_ret
   exact ⟨rfl, (by repeat (first | exact Below.refl _ _ | assumption | refine below_drewN ?_ _ | refine Below.drew ?_ | refine Below.setCell ?_ (by first | exact Nat.le_refl _ | (simp; done) | (simp; omega)) _ | refine bal ?_ _ | refine bgo ?_ (by assumption)))⟩
theorem refMay13_node1 (b e : Int) (f : Nat) (W : World) (hb : objB b = true) (hf : f ≤ 12) (he : 0 ≤ e) : Calls Tryz.prog 110 #[capV 2 b 0 0 e f 0 0] W fun x W' => x = .returned (.bool (capB 2 b 0 0 e f 0 0)) ∧ Below W.heap.size W W' := by
 have f0 : (0 : Int) ≤ f := by omega
 have f1 : (f : Int) ≤ 12 := by omega
 have hk : capB 2 b 0 0 e f 0 0 = decide (e < ((2 ^ f : Nat) : Int)) := by
  rw [Bool.eq_iff_iff]
  simp only [capB, guardB, hb, Int.reduceEq, or_self, if_false, if_true, and_self, decide_true, Bool.and_true, Bool.true_and, decide_eq_true_eq, Int.toNat_natCast]
  exact ⟨fun h => h.2.2.2, fun h => ⟨f0, f1, he, h⟩⟩
 rw [hk]
 have HN := hid hb
 clear hb hk
 go_enter Tryz.func110, Tryz.ntmps110
 go_wp2
 go_region
 go_wp2
 obtain ⟨w2, hw2⟩ : ∃ x, x = ((W.alloc (Obj.cells #[Value.int .i64 2, Value.int .i64 b, Value.int .i64 0, Value.int .u64 0, Value.int .i64 e, Value.int .i64 f, Value.int .i64 0, Value.int .i64 0] 33)).alloc (Obj.cells #[Value.int .i64 2, Value.int .i64 b, Value.int .i64 0, Value.int .u64 0, Value.int .i64 e, Value.int .i64 f, Value.int .i64 0, Value.int .i64 0] 33)).drew := ⟨_, rfl⟩
 rw [← hw2]
 obtain ⟨⟨p0, p1, p2, p3, p4, p5, p6, p7⟩, ⟨q0, q1, q2, q3, q4, q5, q6, q7⟩, hb2⟩ := two_caps hw2
 clear hw2
 go_quiet ((first | (go_at_call 124; exact Calls.quiet_of_same (same_q (obj13_is _ HN.out _))) | (go_at_call 125; exact Calls.quiet_of_same (same_q (power_any f _ hf)))))
 all_goals
  go_wp2
  go_ret
  exact ⟨rfl, (by repeat (first | exact Below.refl _ _ | assumption | refine below_drewN ?_ _ | refine Below.drew ?_ | refine Below.setCell ?_ (by first | exact Nat.le_refl _ | (simp; done) | (simp; omega)) _ | refine bal ?_ _ | refine bgo ?_ (by assumption)))⟩
theorem refMay13_frame (b c d e f g h : Int) (W : World) : Calls Tryz.prog 110 #[capV 3 b c d e f g h] W fun x W' => x = .returned (.bool (capB 3 b c d e f g h)) ∧ Below W.heap.size W W' := by
 cases ho : objB b
 all_goals
  go_enter Tryz.func110, Tryz.ntmps110
  go_wp2
  go_region
  all_goals go_wp2_with (first
   | (go_at_call 124; refine (obj13_any _ _).mono ?_; rw [ho]; rintro x w1 ⟨rfl, rfl⟩))
  all_goals
   go_ret
   exact ⟨ret_bool (by simp [capB, placeB, *] <;> omega), (by repeat (first | exact Below.refl _ _ | assumption | refine below_drewN ?_ _ | refine Below.drew ?_ | refine Below.setCell ?_ (by first | exact Nat.le_refl _ | (simp; done) | (simp; omega)) _ | refine bal ?_ _ | refine bgo ?_ (by assumption)))⟩
theorem refMay13_end (b c d e f g h : Int) (W : World) : Calls Tryz.prog 110 #[capV 8 b c d e f g h] W fun x W' => x = .returned (.bool (capB 8 b c d e f g h)) ∧ Below W.heap.size W W' := by
 cases ho : objB b
 all_goals
  go_enter Tryz.func110, Tryz.ntmps110
  go_wp2
  go_region
  all_goals go_wp2_with (first
   | (go_at_call 124; refine (obj13_any _ _).mono ?_; rw [ho]; rintro x w1 ⟨rfl, rfl⟩))
  all_goals
   go_ret
   exact ⟨ret_bool (by simp [capB, mayB, *] <;> omega), (by repeat (first | exact Below.refl _ _ | assumption | refine below_drewN ?_ _ | refine Below.drew ?_ | refine Below.setCell ?_ (by first | exact Nat.le_refl _ | (simp; done) | (simp; omega)) _ | refine bal ?_ _ | refine bgo ?_ (by assumption)))⟩
theorem capMay (a b c d e f g h : Int) (W : World) (hT : TabG W) (e1 : e ≤ 9223372036854775807) : Calls Tryz.prog 15 #[capV a b c d e f g h] W fun x W' => x = .returned (.bool (capB a b c d e f g h)) ∧ Below W.heap.size W W' := by
 by_cases h0 : a = 0 ∨ a = 7
 ·exact none_may a b c d e f g h W h0
 by_cases h1 : a = 1 ∨ a = 4 ∨ a = 5 ∨ a = 6 ∨ a = 9
 ·exact plain_may a b c d e f g h W h1
 by_cases h2 : a = 2
 ·subst h2; exact node_may b c d e f g h W hT e1
 by_cases h3 : a = 3
 ·subst h3; exact frame_may b c d e f g h W
 by_cases h8 : a = 8
 ·subst h8; exact end_may b c d e f g h W
 exact no_may a b c d e f g h W (by omega)
theorem refMay13_no (a b c d e f g h : Int) (W : World) (ha : a < 0 ∨ 9 < a) : Calls Tryz.prog 110 #[capV a b c d e f g h] W fun x W' => x = .returned (.bool (capB a b c d e f g h)) ∧ Below W.heap.size W W' := by
 have hk : capB a b c d e f g h = false := by
  unfold capB
  rw [if_neg (by omega), if_neg (by omega), if_neg (by omega), if_neg (by omega), if_neg (by omega)]
 rw [hk]
 have k0 : (a == 0) = false := beq_eq_false_iff_ne.2 (by omega)
 have k1 : (a == 1) = false := beq_eq_false_iff_ne.2 (by omega)
 have k2 : (a == 2) = false := beq_eq_false_iff_ne.2 (by omega)
 have k3 : (a == 3) = false := beq_eq_false_iff_ne.2 (by omega)
 have k4 : (a == 4) = false := beq_eq_false_iff_ne.2 (by omega)
 have k5 : (a == 5) = false := beq_eq_false_iff_ne.2 (by omega)
 have k6 : (a == 6) = false := beq_eq_false_iff_ne.2 (by omega)
 have k7 : (a == 7) = false := beq_eq_false_iff_ne.2 (by omega)
 have k8 : (a == 8) = false := beq_eq_false_iff_ne.2 (by omega)
 have k9 : (a == 9) = false := beq_eq_false_iff_ne.2 (by omega)
 clear hk ha
 go_enter Tryz.func110, Tryz.ntmps110
 go_wp2
 go_ret
 exact ⟨rfl, (by repeat (first | exact Below.refl _ _ | assumption | refine below_drewN ?_ _ | refine Below.drew ?_ | refine Below.setCell ?_ (by first | exact Nat.le_refl _ | (simp; done) | (simp; omega)) _ | refine bal ?_ _ | refine bgo ?_ (by assumption)))⟩
theorem refMay13 (a b c d e f g h : Int) (W : World) : Calls Tryz.prog 110 #[capV a b c d e f g h] W fun x W' => x = .returned (.bool (capB a b c d e f g h)) ∧ Below W.heap.size W W' := by
 by_cases h0 : a = 0 ∨ a = 7
 ·exact refMay13_none a b c d e f g h W h0
 by_cases h1 : a = 1 ∨ a = 4 ∨ a = 5 ∨ a = 6 ∨ a = 9
 ·exact refMay13_plain a b c d e f g h W h1
 by_cases h2 : a = 2
 ·subst h2
  by_cases hk : objB b = true ∧ c = 0 ∧ d = 0 ∧ g = 0 ∧ h = 0 ∧ 0 ≤ f ∧ f ≤ 12 ∧ 0 ≤ e
  ·obtain ⟨hb, rfl, rfl, rfl, rfl, f0, f1, he⟩ := hk
   obtain ⟨n, rfl⟩ := Int.eq_ofNat_of_zero_le f0
   exact refMay13_node1 b e n W hb (by omega) he
  ·refine refMay13_node0 b c d e f g h W ?_
   cases hb : objB b
   ·exact .inl rfl
   ·simp only [hb, true_and] at hk ⊢
    simp only [reduceCtorEq, false_or]
    omega
 by_cases h3 : a = 3
 ·subst h3; exact refMay13_frame b c d e f g h W
 by_cases h8 : a = 8
 ·subst h8; exact refMay13_end b c d e f g h W
 exact refMay13_no a b c d e f g h W (by omega)
end CX
end
section
namespace TabS
def NoSlot (L : List Sn) (id ix : Int) : Prop := hasS L id = false ∨ ∃ x, L[posS L id]? = some x ∧ x.id = id ∧ (ix < 0 ∨ (x.l.length : Int) ≤ ix)
theorem sat_no (w : World) (b base : Nat) (tv : Value) (L : List Sn) (id ix : Int) (h : SlotsAt w b base tv L) (hn : NoSlot L id ix) :
  Calls Tryz.prog 102 #[.pointer (some ⟨b, 0, none⟩), .agg #[.int .i64 id, .int .i64 ix]] w fun e w' => e = .returned (.tuple #[.pointer none, .int .i64 3]) ∧ Below w.heap.size w w' := by
 rcases hn with hh | ⟨x, hx, hid, hi | hi⟩
 ·exact sat_none w b base tv L id ix h hh
 ·exact sat_low w b base tv L id ix x h hx hid hi
 ·exact sat_high w b base tv L id ix x h hx hid hi
theorem slot_or {w : World} {b base : Nat} {tv : Value} {L : List Sn} (h : SlotsAt w b base tv L) (id ix : Int) : NoSlot L id ix ∨ ∃ (x : Sn) (i : Nat), L[posS L id]? = some x ∧ x.id = id ∧ ix = i ∧ i < x.l.length := by
 cases hh : hasS L id with
 | false => exact .inl (.inl hh)
 | true =>
  obtain ⟨x, hx, hid⟩ := (hasS_at h).1 hh
  by_cases h1 : ix < 0 ∨ (x.l.length : Int) ≤ ix
  ·exact .inl (.inr ⟨x, hx, hid, h1⟩)
  ·exact .inr ⟨x, ix.toNat, hx, hid, by omega, by omega⟩
theorem sget_no (w : World) (b base : Nat) (tv : Value) (L : List Sn) (id ix : Int) (h : SlotsAt w b base tv L) (hn : NoSlot L id ix) :
  Calls Tryz.prog 66 #[.pointer (some ⟨b, 0, none⟩), .agg #[.int .i64 id, .int .i64 ix]] w fun e w' => e = .returned (.tuple #[zC.V, .int .i64 3]) ∧ Below w.heap.size w w' := by
 have H := Lib.hid h
 have HN := Lib.hid hn
 clear h hn
 go_enter Tryz.func66, Tryz.ntmps66
 go_wp2_with (first
  | (go_at_call 102; refine (sat_no _ b base tv L id ix (H.out.call (bal (bal (Below.refl _ _) _) _)) HN.out).mono ?_; rintro e w1 ⟨rfl, hb1⟩; obtain ⟨hc1, hf1⟩ := bcell hb1; have hz1 := hb1.size; have hz2 : w.heap.size + 1 < w1.heap.size := (by simp at hz1; omega)))
 exact bodyPost_ret (v := .tuple #[zC.V, .int .i64 3]) (by simp [results, Tryz.results66, go_sem, hc1, hf1, hz2, zC]) rfl ⟨rfl, bs' (bs' (bs' (bs' (bs' (bs' (bs' (bs' (bgo (bal (bal (Below.refl _ _) _) _) hb1) _ _ _) _ _ _) _ _ _) _ _ _) _ _ _) _ _ _) _ _ _) _ _ _⟩
theorem sget_yes (w : World) (b base : Nat) (tv : Value) (L : List Sn) (id : Int) (i : Nat) (x : Sn) (c : Cp) (h : SlotsAt w b base tv L) (hx : L[posS L id]? = some x) (hid : x.id = id) (hc : x.l[i]? = some c) :
  Calls Tryz.prog 66 #[.pointer (some ⟨b, 0, none⟩), .agg #[.int .i64 id, .int .i64 i]] w fun e w' => e = .returned (.tuple #[c.V, .int .i64 0]) ∧ Below w.heap.size w w' := by
 have H := Lib.hid h
 have hi := (lgs hc).1
 have HX := Lib.hid hx
 have HI := Lib.hid hid
 have HL := Lib.hid hi
 have hg : x.g < w.heap.size := h.glt (List.mem_of_getElem? hx)
 have HC := Lib.hid (fun (w' : World) (hb : Below w.heap.size w w') (j : Nat) (u : Value) (hu : c.L[j]? = some u) => (h.call hb).cell (List.mem_of_getElem? hx) hc hu)
 have hat : ∀ v, Below w.heap.size w v → Calls Tryz.prog 102 #[.pointer (some ⟨b, 0, none⟩), .agg #[.int .i64 id, .int .i64 i]] v fun e w' => e = .returned (.tuple #[.pointer (some ⟨x.g, i * 8, none⟩), .int .i64 0]) ∧ Below v.heap.size v w' := fun v hv => sat_yes v b base tv L id i x (h.call hv) hx hid hi
 have HA := Lib.hid hat
 clear h hx hid hc hi hat
 obtain ⟨gx, hgx⟩ : ∃ y, y = x.g := ⟨_, rfl⟩
 rw [← hgx] at HC HA hg
 clear hgx
 go_enter Tryz.func66, Tryz.ntmps66
 go_wp2_with (first
  | (go_at_call 102; refine (HA.out _ (bal (bal (Below.refl _ _) _) _)).mono ?_; rintro e w1 ⟨rfl, hb1⟩; have HB1 := Lib.hid (bgo (bal (bal (Below.refl w.heap.size w) _) _) hb1); obtain ⟨hc1, hf1⟩ := bcell hb1; have hz1 := hb1.size; have hz2 : w.heap.size + 1 < w1.heap.size := (by simp at hz1; omega); have k0 := HC.out w1 HB1.out 0 _ rfl; have k1 := HC.out w1 HB1.out 1 _ rfl; have k2 := HC.out w1 HB1.out 2 _ rfl; have k3 := HC.out w1 HB1.out 3 _ rfl; have k4 := HC.out w1 HB1.out 4 _ rfl; have k5 := HC.out w1 HB1.out 5 _ rfl; have k6 := HC.out w1 HB1.out 6 _ rfl; have k7 := HC.out w1 HB1.out 7 _ rfl; rw [Nat.add_zero] at k0))
 exact bodyPost_ret (v := .tuple #[c.V, .int .i64 0]) (by simp [results, Tryz.results66, go_sem, hc1, hf1, hz2]) rfl ⟨rfl, bs' (bs' (bs' (bs' (bs' (bs' (bs' (bs' (bgo (bal (bal (Below.refl _ _) _) _) hb1) _ _ _) _ _ _) _ _ _) _ _ _) _ _ _) _ _ _) _ _ _) _ _ _⟩
def putS (L : List Sn) (k : Nat) (x : Sn) (i : Nat) (c : Cp) : List Sn := L.set k ⟨x.id, x.g, x.l.set i c⟩
theorem rowsS_put {L : List Sn} {k : Nat} {x : Sn} (hk : L[k]? = some x) (i : Nat) (c : Cp) : rowsS (putS L k x i c) = rowsS L := by
 unfold rowsS putS
 apply List.ext_getElem?
 intro j
 rw [List.getElem?_map, List.getElem?_map, List.getElem?_set]
 have := (lgs hk).1
 by_cases e : k = j
 ·subst e
  rw [if_pos rfl, if_pos this, hk]
  simp [rowS, Sn.v]
 ·rw [if_neg e]
theorem mem_putS {L : List Sn} {k : Nat} {x : Sn} {i : Nat} {c : Cp} {y : Sn} (hp : L.Pairwise fun x y => x.g ≠ y.g) (hk : L[k]? = some x) (hy : y ∈ putS L k x i c) : y = ⟨x.id, x.g, x.l.set i c⟩ ∨ (y ∈ L ∧ y.g ≠ x.g) := by
 obtain ⟨j, hj⟩ := List.getElem?_of_mem hy
 unfold putS at hj
 rw [List.getElem?_set] at hj
 by_cases e : k = j
 ·subst e
  rw [if_pos rfl] at hj
  split at hj
  ·cases hj; exact .inl rfl
  ·cases hj
 ·rw [if_neg e] at hj
  refine .inr ⟨List.mem_of_getElem? hj, ?_⟩
  obtain ⟨hjl, rfl⟩ := lgs hj
  obtain ⟨hkl, rfl⟩ := lgs hk
  rcases Nat.lt_or_gt_of_ne e with q | q
  ·exact Ne.symm (List.pairwise_iff_getElem.1 hp k j hkl hjl q)
  ·exact List.pairwise_iff_getElem.1 hp j k hjl hkl q
theorem pair_putS {L : List Sn} {k : Nat} {x : Sn} {i : Nat} {c : Cp} (hp : L.Pairwise fun x y => x.g ≠ y.g) (hk : L[k]? = some x) : (putS L k x i c).Pairwise fun x y => x.g ≠ y.g := by
 have e : (putS L k x i c).map Sn.g = L.map Sn.g := by
  unfold putS
  apply List.ext_getElem?
  intro j
  rw [List.getElem?_map, List.getElem?_map, List.getElem?_set]
  have := (lgs hk).1
  by_cases e : k = j
  ·subst e
   rw [if_pos rfl, if_pos this, hk]
   rfl
  ·rw [if_neg e]
 have h1 : (L.map Sn.g).Pairwise (· ≠ ·) := List.pairwise_map.2 hp
 rw [← e] at h1
 exact List.pairwise_map.1 h1
theorem SlotsAt.put {w : World} {b base : Nat} {tv : Value} {L : List Sn} (h : SlotsAt w b base tv L) {k : Nat} {x : Sn} (hk : L[k]? = some x) {i : Nat} (hi : i < x.l.length) (c : Cp) :
  SlotsAt (setL w x.g (i * 8) c.L) b base tv (putS L k x i c) ∧ SOnly w (setL w x.g (i * 8) c.L) b tv tv L (putS L k x i c) := by
 have hx := List.mem_of_getElem? hk
 have eo := fun j (hj : j ≠ x.g) => setL_other hj c.L w (i * 8)
 obtain ⟨s1, s2, s3, s4⟩ := setL_rest (m := x.g) c.L w (i * 8)
 have em : (setL w x.g (i * 8) c.L).heap[x.g]? = some (.cells (flatC (x.l.set i c)).toArray 33 (0, 0)) := by
  rw [setL_same c.L w (i * 8) _ (h.blk x hx).1, putL_eq _ _ _ (by rw [flatC_len]; simp [Cp.L]; omega), flatC_set c hi]
  rfl
 have hbx : b ≠ x.g := Ne.symm (h.gne hx)
 refine ⟨⟨?_, fun y hy => ?_, pair_putS h.ap hk, fun y hy => ?_, fun y hy => ?_⟩, ⟨s1, s2, s3, Nat.le_of_eq s4.symm, fun j _ _ _ hL => eo j (fun e => hL x hx e.symm), fun j _ e => ?_⟩⟩
 ·rw [rowsS_put hk]
  exact h.tab.of (Nat.le_of_eq s4.symm) (World.cell?_of_block (eo b hbx)) (World.frozen?_of_block (eo b hbx)) (fun g hg => eo g (fun e => h.nt x hx (e ▸ hg)))
 ·rcases mem_putS h.ap hk hy with rfl | ⟨q1, q2⟩
  ·exact ⟨em, (h.blk x hx).2⟩
  ·exact ⟨(eo y.g q2).trans (h.blk y q1).1, (h.blk y q1).2⟩
 ·rcases mem_putS h.ap hk hy with rfl | ⟨q1, q2⟩
  ·exact h.nt x hx
  ·exact h.nt y q1
 ·rcases mem_putS h.ap hk hy with rfl | ⟨q1, q2⟩
  ·simpa using h.bd x hx
  ·exact h.bd y q1
 ·rcases e with e | ⟨y, hy, e⟩
  ·exact .inl e
  ·rcases mem_putS h.ap hk hy with rfl | ⟨q1, q2⟩
   ·exact .inr ⟨x, hx, e⟩
   ·exact .inr ⟨y, q1, e⟩
def mayC (c : Cp) : Bool := CX.capB c.a c.b c.c c.d c.e c.f c.g c.h
theorem sset_no (w : World) (b base : Nat) (tv : Value) (L : List Sn) (id ix : Int) (c : Cp) (h : SlotsAt w b base tv L) (hn : NoSlot L id ix) :
  Calls Tryz.prog 71 #[.pointer (some ⟨b, 0, none⟩), .agg #[.int .i64 id, .int .i64 ix], c.V] w fun e w' => e = .returned (.int .i64 3) ∧ Below w.heap.size w w' := by
 have H := Lib.hid h
 have HN := Lib.hid hn
 clear h hn
 go_enter Tryz.func71, Tryz.ntmps71
 go_wp2_with (first
  | (go_at_call 102; refine (sat_no _ b base tv L id ix (H.out.call (bal (bal (Below.refl _ _) _) _)) HN.out).mono ?_; rintro e w1 ⟨rfl, hb1⟩; obtain ⟨hc1, hf1⟩ := bcell hb1))
 go_ret
 exact ⟨rfl, bgo (bal (bal (Below.refl _ _) _) _) hb1⟩
theorem sset_form (w : World) (b base : Nat) (tv : Value) (L : List Sn) (id : Int) (i : Nat) (x : Sn) (c : Cp) (h : SlotsAt w b base tv L) (hT : CX.TabG w) (he : c.e ≤ 9223372036854775807) (hx : L[posS L id]? = some x) (hid : x.id = id) (hi : i < x.l.length) (hm : mayC c = false) :
  Calls Tryz.prog 71 #[.pointer (some ⟨b, 0, none⟩), .agg #[.int .i64 id, .int .i64 i], c.V] w fun e w' => e = .returned (.int .i64 5) ∧ Below w.heap.size w w' := by
 have hat : ∀ v, Below w.heap.size w v → Calls Tryz.prog 102 #[.pointer (some ⟨b, 0, none⟩), .agg #[.int .i64 id, .int .i64 i]] v fun e w' => e = .returned (.tuple #[.pointer (some ⟨x.g, i * 8, none⟩), .int .i64 0]) ∧ Below v.heap.size v w' := fun v hv => sat_yes v b base tv L id i x (h.call hv) hx hid hi
 have HA := Lib.hid hat
 have hmay : ∀ v, Below w.heap.size w v → Calls Tryz.prog 15 #[c.V] v fun e w' => e = .returned (.bool false) ∧ Below v.heap.size v w' := fun v hv => hm ▸ CX.capMay c.a c.b c.c c.d c.e c.f c.g c.h v (hT.call hv) he
 have HM := Lib.hid hmay
 clear h hx hid hi hat hmay hT he hm
 go_enter Tryz.func71, Tryz.ntmps71
 go_wp2_with (first
  | (go_at_call 102; refine (HA.out _ (bal (bal (Below.refl _ _) _) _)).mono ?_; rintro e w1 ⟨rfl, hb1⟩; have HB1 := Lib.hid (bgo (bal (bal (Below.refl w.heap.size w) _) _) hb1); obtain ⟨hc1, hf1⟩ := bcell hb1; have hz1 := hb1.size; have hz2 : w.heap.size + 1 < w1.heap.size := (by simp at hz1; omega))
  | (go_at_call 15; refine (HM.out _ HB1.out).mono ?_; rintro e w2 ⟨rfl, hb2⟩))
 go_ret
 exact ⟨rfl, bgo HB1.out hb2⟩
theorem setL_C (w : World) (m k : Nat) (c : Cp) : setL w m k c.L = (((((((w.setCell ⟨m, k, none⟩ (.int .i64 c.a)).setCell ⟨m, k + 1, none⟩ (.int .i64 c.b)).setCell ⟨m, k + 2, none⟩ (.int .i64 c.c)).setCell ⟨m, k + 3, none⟩ (.int .u64 c.d)).setCell ⟨m, k + 4, none⟩ (.int .i64 c.e)).setCell ⟨m, k + 5, none⟩ (.int .i64 c.f)).setCell ⟨m, k + 6, none⟩ (.int .i64 c.g)).setCell ⟨m, k + 7, none⟩ (.int .i64 c.h) := rfl
theorem sset_yes (w : World) (b base : Nat) (tv : Value) (L : List Sn) (id : Int) (i : Nat) (x : Sn) (c : Cp) (h : SlotsAt w b base tv L) (hT : CX.TabG w) (he : c.e ≤ 9223372036854775807) (hx : L[posS L id]? = some x) (hid : x.id = id) (hi : i < x.l.length) (hm : mayC c = true) :
  Calls Tryz.prog 71 #[.pointer (some ⟨b, 0, none⟩), .agg #[.int .i64 id, .int .i64 i], c.V] w fun e w' => e = .returned (.int .i64 0) ∧ SlotsAt w' b base tv (putS L (posS L id) x i c) ∧ SOnly w w' b tv tv L (putS L (posS L id) x i c) := by
 have hat : ∀ v, Below w.heap.size w v → Calls Tryz.prog 102 #[.pointer (some ⟨b, 0, none⟩), .agg #[.int .i64 id, .int .i64 i]] v fun e w' => e = .returned (.tuple #[.pointer (some ⟨x.g, i * 8, none⟩), .int .i64 0]) ∧ Below v.heap.size v w' := fun v hv => sat_yes v b base tv L id i x (h.call hv) hx hid hi
 have HA := Lib.hid hat
 have hmay : ∀ v, Below w.heap.size w v → Calls Tryz.prog 15 #[c.V] v fun e w' => e = .returned (.bool true) ∧ Below v.heap.size v w' := fun v hv => hm ▸ CX.capMay c.a c.b c.c c.d c.e c.f c.g c.h v (hT.call hv) he
 have HM := Lib.hid hmay
 have hmem := List.mem_of_getElem? hx
 have hg : x.g < w.heap.size := h.glt hmem
 obtain ⟨c0, hc0⟩ : ∃ c0, x.l[i]? = some c0 := ⟨_, List.getElem?_eq_getElem hi⟩
 have HC := Lib.hid (fun (w' : World) (hb : Below w.heap.size w w') (j : Nat) (u : Value) (hu : c0.L[j]? = some u) => (h.call hb).cell hmem hc0 hu)
 have HZ := Lib.hid (fun (w' : World) (hb : Below w.heap.size w w') (j : Nat) => (h.call hb).free hmem j)
 have hfin : ∀ w', Below w.heap.size w w' → SlotsAt (setL w' x.g (i * 8) c.L) b base tv (putS L (posS L id) x i c) ∧ SOnly w (setL w' x.g (i * 8) c.L) b tv tv L (putS L (posS L id) x i c) := by
  intro w' hb
  obtain ⟨q1, q2⟩ := (h.call hb).put hx hi c
  exact ⟨q1, q2.os.trans hb.os, q2.tape.trans hb.tape, q2.output.trans hb.output, Nat.le_trans hb.size q2.size, fun k hk p1 p2 p3 => (q2.block k (Nat.lt_of_lt_of_le hk hb.size) p1 p2 p3).trans (hb.block k hk), fun k hk e => q2.foot k (Nat.lt_of_lt_of_le hk hb.size) e⟩
 have HF := Lib.hid hfin
 clear h hx hid hi hat hmay hT he hm hc0 hmem hfin
 obtain ⟨gx, hgx⟩ : ∃ y, y = x.g := ⟨_, rfl⟩
 rw [← hgx] at HC HA hg HZ HF
 clear hgx
 go_enter Tryz.func71, Tryz.ntmps71
 go_wp2_with (first
  | (go_at_call 102; refine (HA.out _ (bal (bal (Below.refl _ _) _) _)).mono ?_; rintro e w1 ⟨rfl, hb1⟩; have HB1 := Lib.hid (bgo (bal (bal (Below.refl w.heap.size w) _) _) hb1); obtain ⟨hc1, hf1⟩ := bcell hb1; have hz1 := hb1.size; have hz2 : w.heap.size + 1 < w1.heap.size := (by simp at hz1; omega))
  | (go_at_call 15; refine (HM.out _ HB1.out).mono ?_; rintro e w2 ⟨rfl, hb2⟩; have HB2 := Lib.hid (bgo HB1.out hb2); obtain ⟨hc2, hf2⟩ := bcell hb2; have hz3 := hb2.size; have hz4 : gx < w2.heap.size := (Nat.lt_of_lt_of_le hg HB2.out.size); have k0 := HC.out w2 HB2.out 0 _ rfl; have k1 := HC.out w2 HB2.out 1 _ rfl; have k2 := HC.out w2 HB2.out 2 _ rfl; have k3 := HC.out w2 HB2.out 3 _ rfl; have k4 := HC.out w2 HB2.out 4 _ rfl; have k5 := HC.out w2 HB2.out 5 _ rfl; have k6 := HC.out w2 HB2.out 6 _ rfl; have k7 := HC.out w2 HB2.out 7 _ rfl; rw [Nat.add_zero] at k0; have f0 := HZ.out w2 HB2.out (i * 8); have f1 := HZ.out w2 HB2.out (i * 8 + 1); have f2 := HZ.out w2 HB2.out (i * 8 + 2); have f3 := HZ.out w2 HB2.out (i * 8 + 3); have f4 := HZ.out w2 HB2.out (i * 8 + 4); have f5 := HZ.out w2 HB2.out (i * 8 + 5); have f6 := HZ.out w2 HB2.out (i * 8 + 6); have f7 := HZ.out w2 HB2.out (i * 8 + 7)))
 go_ret
 have hs := HF.out w2 HB2.out
 rw [setL_C] at hs
 exact ⟨rfl, hs⟩
end TabS
end
section
variable {P : Program} {F : Fence} {n : Nat}
def _root_.Go.Obj.rowOf (E : TypeId) : Obj → Bool
 | .cells _ t _ => t == E
 | _ => false
def HiKept (E : TypeId) (B : Nat) (A A' : World) : Prop := A.heap.size ≤ A'.heap.size ∧ ∀ (k : Nat) (o : Obj), B ≤ k → A.heap[k]? = some o → o.rowOf E = false → A'.heap[k]? = some o
theorem HiKept.mono {E : TypeId} {B B' : Nat} {A A' : World} (h : HiKept E B A A') (hb : B ≤ B') : HiKept E B' A A' := ⟨h.1, fun k o hk => h.2 k o (by omega)⟩
theorem HiKept.trans {E : TypeId} {B : Nat} {a b c : World} (h : HiKept E B a b) (k : HiKept E B b c) : HiKept E B a c := ⟨Nat.le_trans h.1 k.1, fun j o hj hl ho => k.2 j o hj (h.2 j o hj hl ho) ho⟩
theorem HiKept.below {E : TypeId} {B : Nat} {a b : World} (h : Below a.heap.size a b) : HiKept E B a b := ⟨h.size, fun k o _ hl _ => (h.block k (ags hl).1).trans hl⟩
def SeqPx (E : TypeId) (F : Fence) (n : Nat) (P : Program) (g : Nat) (lb : Array Value) (encs : Nat → Array Value) (I : Nat → World → Prop) (N B : Nat) : Prop :=
 ∀ (l : Nat) (J Jx : Nat → World → Prop) (W : World), B ≤ W.heap.size → OwnFrom W.heap.size J → OwnFrom W.heap.size Jx → (∀ k W1, J k W1 → I k W1) →
  (∀ k W1, k < N → J k W1 → YieldAt F (n - 1) P l (encs k) W1 fun e W' => (e = .returned (.bool true) ∧ J (k + 1) W' ∧ HiKept E W.heap.size W1 W') ∨ (e = .returned (.bool false) ∧ Jx k W' ∧ HiKept E W.heap.size W1 W')) →
  J 0 W → CallsIn F n P g (#[.func (.yield l) #[] #[]] ++ lb) W fun e W' => (∃ v, e = .returned v) ∧ (J N W' ∨ ∃ k, k < N ∧ Jx k W')
def pxPost (E : TypeId) (I : Nat → World → Prop) (Ix : Code → Nat → World → Prop) (k B : Nat) (W : World) : Exit → Act → World → Prop
 | .normal, _, W' => HiKept E B W W' ∧ I (k + 1) W'
 | .ret, _, W' => HiKept E B W W' ∧ Ix .ret k W'
 | .exit id, _, W' => HiKept E B W W' ∧ Ix (.exit id) k W'
 | .goto t, _, W' => HiKept E B W W' ∧ Ix (.goto t) k W'
 | .panic _, _, _ => False
 | .outgrown, _, _ => False
theorem wpIn_range_px {g : Operand} {ps : Array Tmp} {assign body : Code} {Q : Exit → Act → World → Prop} {a : Act} {w : World}
  (hro : F.round = none) (h1 : 1 ≤ n) {gf : Nat} {lb : Array Value} (hg : a.eval g = .func (.func gf) #[] lb) (hFg : F.fn gf) (eg : ∀ args w, (callFunc gf args).run P w = .ok (.enter gf args) w)
  {encs : Nat → Array Value} {N : Nat} (E : TypeId) (I : Nat → World → Prop) (Ix : Code → Nat → World → Prop) (hseq : SeqPx E F (n - 1) P gf lb encs I N w.heap.size) (hps : ∀ x, (encs x).size = ps.size)
  (hI : OwnFrom w.heap.size I) (hIx : ∀ c, OwnFrom w.heap.size (Ix c)) (h0 : I 0 w) (a₁ : Nat → Act)
  (hassign : ∀ (l : Nat) (x : Nat) (W : World) (K : Act → World → Prop), K (a₁ x) W →
   assign.wpIn (F.inRound l) (n - 1 - 1) P (Exit.then K (fun _ _ _ => False)) { tmps := (ps.zip (encs x)).foldl (fun t (p, v) => t.setIfInBounds p v) a.tmps, defers := [] } W)
  (hbody : ∀ (l k : Nat) (W : World), k < N → I k W → body.wpIn (F.inRound l) (n - 1 - 1) P (pxPost E I Ix k w.heap.size W) (a₁ k) W)
  (hdone : ∀ (D : Nat) (W : World), w.heap.size ≤ D → I N W → W.heap[D]? = some (.deferred (some [])) → Q .normal { a with defers := { target := .collected D, args := #[] } :: a.defers } W)
  (hstop : ∀ (D : Nat) (c : Code) (k : Nat) (W : World), w.heap.size ≤ D → k < N → Ix c k W → W.heap[D]? = some (.deferred (some [])) → c.wpIn F n P Q { a with defers := { target := .collected D, args := #[] } :: a.defers } W) :
  (Code.rangeFunc g ps assign body).wpIn F n P Q a w := by
 refine wpIn_rangeFunc ?_
 intro fn hfn
 rw [hro]
 obtain ⟨rc, hrc⟩ : ∃ rc : LoopState → Option Code → Loop, rc = fun st pe => { state := st, pending := pe, fn, tmps := a.tmps, params := ps, assign, body, defers := w.heap.size } := ⟨_, rfl⟩
 have hent := run_enterLoop_outer (P := P) (w := w) fn a.tmps ps assign body
 obtain ⟨W1, hW1⟩ : ∃ W1, W1 = (w.alloc (.deferred (some []))).alloc (.loop (rc .ready none)) := ⟨_, rfl⟩
 have rec1 : W1.heap[w.heap.size + 1]? = some (.loop (rc .ready none)) := by
  have e := World.alloc_heap_new (w.alloc (.deferred (some []))) (.loop (rc .ready none))
  rw [World.size_alloc] at e
  rw [hW1]; exact e
 have def1 : W1.heap[w.heap.size]? = some (.deferred (some [])) := by
  rw [hW1, Below.heap_alloc _ _ _ (by simp)]
  exact World.alloc_heap_new w _
 have inv1 : I 0 W1 := by rw [hW1]; exact hI.alloc _ (hI.alloc _ h0)
 have siz1 : w.heap.size + 2 ≤ W1.heap.size := by rw [hW1]; simp
 refine ⟨w.heap.size + 1, [{ target := .collected w.heap.size, args := #[] }], W1, { target := .fn (.func gf) lb, args := #[.func (.yield (w.heap.size + 1)) #[] #[]] }, W1, gf, #[.func (.yield (w.heap.size + 1)) #[] #[]] ++ lb, W1, ?_, ?_, ?_, ?_, fun _ => h1, ?_⟩
 ·rw [hW1, hrc]; exact hent
 ·simp only [resolve, hg]
  simp [go_sem]
 ·intro f' hf'
  simp [Target.leads] at hf'
  exact hf' ▸ hFg
 ·simp [invoke, go_sem, eg]
 have keep : ∀ {A B : World} {row : Option Nat} {k : Nat} {o : Obj}, A.grownBy B row → (∀ r, row = some r → W1.heap.size ≤ r ∧ ∃ o : Obj, A.heap[r]? = some o ∧ o.isCells = false) → k < w.heap.size + 2 → A.heap[k]? = some o → B.heap[k]? = some o := by
  intro A B row k o hgr hr hk ho
  exact (hgr.block _ (ags ho).1 (fun e => by have := (hr _ e.symm).1; omega)).trans ho
 have hw : ∀ {A : World} {row : Option Nat}, (∀ r, row = some r → W1.heap.size ≤ r ∧ ∃ o : Obj, A.heap[r]? = some o ∧ o.isCells = false) → ∀ r, row = some r → w.heap.size ≤ r ∧ ∃ o : Obj, A.heap[r]? = some o ∧ o.isCells = false := by
  intro A row hr r e
  obtain ⟨hB, ho⟩ := hr r e
  exact ⟨by omega, ho⟩
 refine (hseq (w.heap.size + 1) (fun k W => I k W ∧ W.heap[w.heap.size + 1]? = some (.loop (rc .ready none)) ∧ W.heap[w.heap.size]? = some (.deferred (some [])))
  (fun k W => ∃ c, Ix c k W ∧ W.heap[w.heap.size + 1]? = some (.loop (rc .done (some c))) ∧ W.heap[w.heap.size]? = some (.deferred (some []))) W1 (by omega) ?_ ?_ (fun _ _ h => h.1) ?_ ⟨inv1, rec1, def1⟩).mono ?_
 ·intro s A B row hs hgr hr
  exact ⟨hI s A B row hs.1 hgr (hw hr), keep hgr hr (by omega) hs.2.1, keep hgr hr (by omega) hs.2.2⟩
 ·intro s A B row hs hgr hr
  obtain ⟨c, hc, h2, h3⟩ := hs
  exact ⟨c, hIx c s A B row hc hgr (hw hr), keep hgr hr (by omega) h2, keep hgr hr (by omega) h3⟩
 ·-- a round
  rintro k W hkN ⟨hi, hl, hk⟩
  have hlt : w.heap.size + 1 < W.heap.size := (ags hl).1
  have hy := run_yield (P := P) (args := encs k) hl (by rw [hrc]; exact hps k)
  rw [hrc] at hy
  obtain ⟨U, hU⟩ : ∃ U, U = W.putObj (w.heap.size + 1) (.loop { rc .ready none with state := .busy }) := ⟨_, rfl⟩
  have recU : U.heap[w.heap.size + 1]? = some (.loop { rc .ready none with state := .busy }) := by rw [hU]; exact World.putObj_heap_same hlt
  have defU : U.heap[w.heap.size]? = some (.deferred (some [])) := by rw [hU]; exact (World.putObj_heap_other (by omega)).trans hk
  have invU : I k U := by rw [hU]; exact hI.putObj _ hi (by omega) hl rfl
  have h9 : U.heap.size = W.heap.size := by rw [hU]; simp [World.putObj]
  refine ⟨fn, _, assign, body, hy, roundIn_of_wpIn hfn (hassign _ k W _ ⟨_, run_beginRound hl (by rw [hrc]), ?_⟩)⟩
  rw [← hU]
  refine wpIn_mono (hbody _ k U hkN invU) ?_
  have fin : ∀ (jump : Option Code) (W3 : World), HiKept E w.heap.size U W3 →
    (Instr.endRound (w.heap.size + 1) jump).run P W3 = .ok (.bool jump.isNone) (W3.putObj (w.heap.size + 1) (.loop (rc (if jump.isNone then .ready else .done) jump))) ∧
    W3.heap[w.heap.size + 1]? = some (.loop { rc .ready none with state := .busy }) ∧
    (W3.putObj (w.heap.size + 1) (.loop (rc (if jump.isNone then .ready else .done) jump))).heap[w.heap.size + 1]? = some (.loop (rc (if jump.isNone then .ready else .done) jump)) ∧
    (W3.putObj (w.heap.size + 1) (.loop (rc (if jump.isNone then .ready else .done) jump))).heap[w.heap.size]? = some (.deferred (some [])) ∧
    HiKept E W1.heap.size W (W3.putObj (w.heap.size + 1) (.loop (rc (if jump.isNone then .ready else .done) jump))) := fun jump W3 hk3 => by
   have rec3 := hk3.2 _ _ (by omega) recU rfl
   have def3 := hk3.2 _ _ (by omega) defU rfl
   have hend := run_endRound (P := P) jump rec3
   have lt3 : w.heap.size + 1 < W3.heap.size := (ags rec3).1
   rw [hrc] at hend rec3
   refine ⟨by rw [hrc]; exact hend, by rw [hrc]; exact rec3, World.putObj_heap_same lt3, (World.putObj_heap_other (by omega)).trans def3, ?_, ?_⟩
   ·have h8 := hk3.1
    simp only [World.putObj, Array.size_setIfInBounds]
    omega
   ·intro j o hjB hjl ho
    have hU' : U.heap[j]? = some o := by rw [hU]; exact (World.putObj_heap_other (by omega)).trans hjl
    exact (World.putObj_heap_other (by omega)).trans (hk3.2 _ _ (by omega) hU' ho)
  rintro e a3 W3 hp
  cases e with
  | normal =>
   obtain ⟨hk3, hi3⟩ := hp
   obtain ⟨hr, hl3, hl4, hk4, hH⟩ := fin none W3 hk3
   exact ⟨_, _, hr, .inl ⟨rfl, ⟨hI.putObj _ hi3 (by omega) hl3 rfl, hl4, hk4⟩, hH⟩⟩
  | ret =>
   obtain ⟨hk3, hi3⟩ := hp
   obtain ⟨hr, hl3, hl4, hk4, hH⟩ := fin (some .ret) W3 hk3
   exact ⟨_, _, hr, .inr ⟨rfl, ⟨.ret, (hIx _).putObj _ hi3 (by omega) hl3 rfl, hl4, hk4⟩, hH⟩⟩
  | exit id =>
   obtain ⟨hk3, hi3⟩ := hp
   obtain ⟨hr, hl3, hl4, hk4, hH⟩ := fin (some (.exit id)) W3 hk3
   exact ⟨_, _, hr, .inr ⟨rfl, ⟨.exit id, (hIx _).putObj _ hi3 (by omega) hl3 rfl, hl4, hk4⟩, hH⟩⟩
  | goto t =>
   obtain ⟨hk3, hi3⟩ := hp
   obtain ⟨hr, hl3, hl4, hk4, hH⟩ := fin (some (.goto t)) W3 hk3
   exact ⟨_, _, hr, .inr ⟨rfl, ⟨.goto t, (hIx _).putObj _ hi3 (by omega) hl3 rfl, hl4, hk4⟩, hH⟩⟩
  | panic ch => exact hp.elim
  | outgrown => exact hp.elim
 ·-- behind the iterator
  rintro e W2 ⟨⟨v, rfl⟩, ⟨hi, hl, hk⟩ | ⟨k, hkN, c, hi, hl, hk⟩⟩
  ·have hend := run_endLoop (P := P) hl (by rw [hrc]; simp)
   rw [hrc] at hend
   exact ⟨none, _, hend, hdone _ _ (Nat.le_refl _) (hI.putObj _ hi (by omega) hl rfl) ((World.putObj_heap_other (by omega)).trans hk)⟩
  ·have hend := run_endLoop (P := P) hl (by rw [hrc]; simp)
   rw [hrc] at hend
   exact ⟨some c, _, hend, hstop _ c k _ (Nat.le_refl _) hkN ((hIx c).putObj _ hi (by omega) hl rfl) ((World.putObj_heap_other (by omega)).trans hk)⟩
theorem round_any {l' m m' : Nat} {P : Program} {l : Nat} {f : FuncId} {tmps : Array Value} {assign body : Code} {w : World} {R : Ending → World → Prop} (h : RoundIn Fence.wide m P l f tmps assign body w R) : RoundIn (Fence.wide.inRound l') m' P l f tmps assign body w R := ⟨h.1, fun c cs _ => h.2 c cs (fun d h => by cases h)⟩
theorem two_ways {A B : World → Prop} {e : Ending} {W : World} (h : (e = .returned (.bool true) ∧ A W) ∨ (e = .returned (.bool false) ∧ B W)) : ∃ t, e = .returned (.bool t) ∧ (t = true → A W) ∧ (t = false → B W) := by
 rcases h with ⟨h1, h2⟩ | ⟨h1, h2⟩
 ·exact ⟨true, h1, fun _ => h2, fun e => (by cases e)⟩
 ·exact ⟨false, h1, fun e => (by cases e), fun _ => h2⟩
theorem cell_of_block {W W' : World} {b j : Nat} (h : W'.heap[b]? = W.heap[b]?) : W'.cell? ⟨b, j, none⟩ = W.cell? ⟨b, j, none⟩ := World.cell?_of_block h
theorem wpIn_range_pa {g : Operand} {ps : Array Tmp} {assign body : Code} {Q : Exit → Act → World → Prop} {a : Act} {w : World}
  (hro : F.round = none) (h1 : 1 ≤ n) {gf : Nat} {lb : Array Value} (hg : a.eval g = .func (.func gf) #[] lb) (hFg : F.fn gf) (eg : ∀ args w, (callFunc gf args).run P w = .ok (.enter gf args) w)
  {encs : Nat → Array Value} {N : Nat} (E : TypeId) (I : Nat → World → Prop) (Ix : Code → Nat → World → Prop) (hseq : SeqPx E F (n - 1) P gf lb encs I N w.heap.size) (hps : ∀ x, (encs x).size = ps.size)
  (hI : OwnFrom w.heap.size I) (hIx : ∀ c, OwnFrom w.heap.size (Ix c)) (h0 : I 0 w) (ob : Nat → Obj) (hob : ∀ x, (ob x).isCells = true) (a₁ : Nat → Nat → Act)
  (hassign : ∀ (l : Nat) (x : Nat) (W : World) (K : Act → World → Prop), K (a₁ x W.heap.size) (W.alloc (ob x)) →
   assign.wpIn (F.inRound l) (n - 1 - 1) P (Exit.then K (fun _ _ _ => False)) { tmps := (ps.zip (encs x)).foldl (fun t (p, v) => t.setIfInBounds p v) a.tmps, defers := [] } W)
  (hbody : ∀ (l k s : Nat) (W : World), k < N → I k W → w.heap.size ≤ s → W.heap[s]? = some (ob k) → body.wpIn (F.inRound l) (n - 1 - 1) P (pxPost E I Ix k w.heap.size W) (a₁ k s) W)
  (hdone : ∀ (D : Nat) (W : World), w.heap.size ≤ D → I N W → W.heap[D]? = some (.deferred (some [])) → Q .normal { a with defers := { target := .collected D, args := #[] } :: a.defers } W)
  (hstop : ∀ (D : Nat) (c : Code) (k : Nat) (W : World), w.heap.size ≤ D → k < N → Ix c k W → W.heap[D]? = some (.deferred (some [])) → c.wpIn F n P Q { a with defers := { target := .collected D, args := #[] } :: a.defers } W) :
  (Code.rangeFunc g ps assign body).wpIn F n P Q a w := by
 refine wpIn_rangeFunc ?_
 intro fn hfn
 rw [hro]
 obtain ⟨rc, hrc⟩ : ∃ rc : LoopState → Option Code → Loop, rc = fun st pe => { state := st, pending := pe, fn, tmps := a.tmps, params := ps, assign, body, defers := w.heap.size } := ⟨_, rfl⟩
 have hent := run_enterLoop_outer (P := P) (w := w) fn a.tmps ps assign body
 obtain ⟨W1, hW1⟩ : ∃ W1, W1 = (w.alloc (.deferred (some []))).alloc (.loop (rc .ready none)) := ⟨_, rfl⟩
 have rec1 : W1.heap[w.heap.size + 1]? = some (.loop (rc .ready none)) := by
  have e := World.alloc_heap_new (w.alloc (.deferred (some []))) (.loop (rc .ready none))
  rw [World.size_alloc] at e
  rw [hW1]; exact e
 have def1 : W1.heap[w.heap.size]? = some (.deferred (some [])) := by
  rw [hW1, Below.heap_alloc _ _ _ (by simp)]
  exact World.alloc_heap_new w _
 have inv1 : I 0 W1 := by rw [hW1]; exact hI.alloc _ (hI.alloc _ h0)
 have siz1 : w.heap.size + 2 ≤ W1.heap.size := by rw [hW1]; simp
 refine ⟨w.heap.size + 1, [{ target := .collected w.heap.size, args := #[] }], W1, { target := .fn (.func gf) lb, args := #[.func (.yield (w.heap.size + 1)) #[] #[]] }, W1, gf, #[.func (.yield (w.heap.size + 1)) #[] #[]] ++ lb, W1, ?_, ?_, ?_, ?_, fun _ => h1, ?_⟩
 ·rw [hW1, hrc]; exact hent
 ·simp only [resolve, hg]
  simp [go_sem]
 ·intro f' hf'
  simp [Target.leads] at hf'
  exact hf' ▸ hFg
 ·simp [invoke, go_sem, eg]
 have keep : ∀ {A B : World} {row : Option Nat} {k : Nat} {o : Obj}, A.grownBy B row → (∀ r, row = some r → W1.heap.size ≤ r ∧ ∃ o : Obj, A.heap[r]? = some o ∧ o.isCells = false) → k < w.heap.size + 2 → A.heap[k]? = some o → B.heap[k]? = some o := by
  intro A B row k o hgr hr hk ho
  exact (hgr.block _ (ags ho).1 (fun e => by have := (hr _ e.symm).1; omega)).trans ho
 have hw : ∀ {A : World} {row : Option Nat}, (∀ r, row = some r → W1.heap.size ≤ r ∧ ∃ o : Obj, A.heap[r]? = some o ∧ o.isCells = false) → ∀ r, row = some r → w.heap.size ≤ r ∧ ∃ o : Obj, A.heap[r]? = some o ∧ o.isCells = false := by
  intro A row hr r e
  obtain ⟨hB, ho⟩ := hr r e
  exact ⟨by omega, ho⟩
 refine (hseq (w.heap.size + 1) (fun k W => I k W ∧ W.heap[w.heap.size + 1]? = some (.loop (rc .ready none)) ∧ W.heap[w.heap.size]? = some (.deferred (some [])))
  (fun k W => ∃ c, Ix c k W ∧ W.heap[w.heap.size + 1]? = some (.loop (rc .done (some c))) ∧ W.heap[w.heap.size]? = some (.deferred (some []))) W1 (by omega) ?_ ?_ (fun _ _ h => h.1) ?_ ⟨inv1, rec1, def1⟩).mono ?_
 ·intro s A B row hs hgr hr
  exact ⟨hI s A B row hs.1 hgr (hw hr), keep hgr hr (by omega) hs.2.1, keep hgr hr (by omega) hs.2.2⟩
 ·intro s A B row hs hgr hr
  obtain ⟨c, hc, h2, h3⟩ := hs
  exact ⟨c, hIx c s A B row hc hgr (hw hr), keep hgr hr (by omega) h2, keep hgr hr (by omega) h3⟩
 ·-- a round
  rintro k W hkN ⟨hi, hl, hk⟩
  have hlt : w.heap.size + 1 < W.heap.size := (ags hl).1
  have hy := run_yield (P := P) (args := encs k) hl (by rw [hrc]; exact hps k)
  rw [hrc] at hy
  have hl' : (W.alloc (ob k)).heap[w.heap.size + 1]? = some (.loop (rc .ready none)) := (Below.heap_alloc _ _ _ (by omega)).trans hl
  have hk' : (W.alloc (ob k)).heap[w.heap.size]? = some (.deferred (some [])) := (Below.heap_alloc _ _ _ (by omega)).trans hk
  have hlt' : w.heap.size + 1 < (W.alloc (ob k)).heap.size := (ags hl').1
  obtain ⟨U, hU⟩ : ∃ U, U = (W.alloc (ob k)).putObj (w.heap.size + 1) (.loop { rc .ready none with state := .busy }) := ⟨_, rfl⟩
  have recU : U.heap[w.heap.size + 1]? = some (.loop { rc .ready none with state := .busy }) := by rw [hU]; exact World.putObj_heap_same hlt'
  have defU : U.heap[w.heap.size]? = some (.deferred (some [])) := by rw [hU]; exact (World.putObj_heap_other (by omega)).trans hk'
  have invU : I k U := by rw [hU]; exact hI.putObj _ (hI.alloc _ hi) (by omega) hl' rfl
  have boxU : U.heap[W.heap.size]? = some (ob k) := by rw [hU]; exact (World.putObj_heap_other (by omega)).trans (World.alloc_heap_new _ _)
  have h9 : U.heap.size = W.heap.size + 1 := by rw [hU]; simp [World.putObj]
  refine ⟨fn, _, assign, body, hy, roundIn_of_wpIn hfn (hassign _ k W _ ⟨_, run_beginRound hl' (by rw [hrc]), ?_⟩)⟩
  rw [← hU]
  refine wpIn_mono (hbody _ k W.heap.size U hkN invU (by omega) boxU) ?_
  have fin : ∀ (jump : Option Code) (W3 : World), HiKept E w.heap.size U W3 →
    (Instr.endRound (w.heap.size + 1) jump).run P W3 = .ok (.bool jump.isNone) (W3.putObj (w.heap.size + 1) (.loop (rc (if jump.isNone then .ready else .done) jump))) ∧
    W3.heap[w.heap.size + 1]? = some (.loop { rc .ready none with state := .busy }) ∧
    (W3.putObj (w.heap.size + 1) (.loop (rc (if jump.isNone then .ready else .done) jump))).heap[w.heap.size + 1]? = some (.loop (rc (if jump.isNone then .ready else .done) jump)) ∧
    (W3.putObj (w.heap.size + 1) (.loop (rc (if jump.isNone then .ready else .done) jump))).heap[w.heap.size]? = some (.deferred (some [])) ∧
    HiKept E W1.heap.size W (W3.putObj (w.heap.size + 1) (.loop (rc (if jump.isNone then .ready else .done) jump))) := fun jump W3 hk3 => by
   have rec3 := hk3.2 _ _ (by omega) recU rfl
   have def3 := hk3.2 _ _ (by omega) defU rfl
   have hend := run_endRound (P := P) jump rec3
   have lt3 : w.heap.size + 1 < W3.heap.size := (ags rec3).1
   rw [hrc] at hend rec3
   refine ⟨by rw [hrc]; exact hend, by rw [hrc]; exact rec3, World.putObj_heap_same lt3, (World.putObj_heap_other (by omega)).trans def3, ?_, ?_⟩
   ·have h8 := hk3.1
    simp only [World.putObj, Array.size_setIfInBounds]
    omega
   ·intro j o hjB hjl ho
    have hU' : U.heap[j]? = some o := by rw [hU]; exact (World.putObj_heap_other (by omega)).trans ((Below.heap_alloc _ _ _ (ags hjl).1).trans hjl)
    exact (World.putObj_heap_other (by omega)).trans (hk3.2 _ _ (by omega) hU' ho)
  rintro e a3 W3 hp
  cases e with
  | normal =>
   obtain ⟨hk3, hi3⟩ := hp
   obtain ⟨hr, hl3, hl4, hk4, hH⟩ := fin none W3 hk3
   exact ⟨_, _, hr, .inl ⟨rfl, ⟨hI.putObj _ hi3 (by omega) hl3 rfl, hl4, hk4⟩, hH⟩⟩
  | ret =>
   obtain ⟨hk3, hi3⟩ := hp
   obtain ⟨hr, hl3, hl4, hk4, hH⟩ := fin (some .ret) W3 hk3
   exact ⟨_, _, hr, .inr ⟨rfl, ⟨.ret, (hIx _).putObj _ hi3 (by omega) hl3 rfl, hl4, hk4⟩, hH⟩⟩
  | exit id =>
   obtain ⟨hk3, hi3⟩ := hp
   obtain ⟨hr, hl3, hl4, hk4, hH⟩ := fin (some (.exit id)) W3 hk3
   exact ⟨_, _, hr, .inr ⟨rfl, ⟨.exit id, (hIx _).putObj _ hi3 (by omega) hl3 rfl, hl4, hk4⟩, hH⟩⟩
  | goto t =>
   obtain ⟨hk3, hi3⟩ := hp
   obtain ⟨hr, hl3, hl4, hk4, hH⟩ := fin (some (.goto t)) W3 hk3
   exact ⟨_, _, hr, .inr ⟨rfl, ⟨.goto t, (hIx _).putObj _ hi3 (by omega) hl3 rfl, hl4, hk4⟩, hH⟩⟩
  | panic ch => exact hp.elim
  | outgrown => exact hp.elim
 ·-- behind the iterator
  rintro e W2 ⟨⟨v, rfl⟩, ⟨hi, hl, hk⟩ | ⟨k, hkN, c, hi, hl, hk⟩⟩
  ·have hend := run_endLoop (P := P) hl (by rw [hrc]; simp)
   rw [hrc] at hend
   exact ⟨none, _, hend, hdone _ _ (Nat.le_refl _) (hI.putObj _ hi (by omega) hl rfl) ((World.putObj_heap_other (by omega)).trans hk)⟩
  ·have hend := run_endLoop (P := P) hl (by rw [hrc]; simp)
   rw [hrc] at hend
   exact ⟨some c, _, hend, hstop _ c k _ (Nat.le_refl _) hkN ((hIx c).putObj _ hi (by omega) hl rfl) ((World.putObj_heap_other (by omega)).trans hk)⟩
theorem SeqPx.inRound {E : TypeId} {g : Nat} {lb : Array Value} {encs : Nat → Array Value} {I : Nat → World → Prop} {N B : Nat} (l : Nat) (h : SeqPx E F n P g lb encs I N B) : SeqPx E (F.inRound l) n P g lb encs I N B := h
theorem ownFrom_hiKept {β : Type} {E : TypeId} {B B' : Nat} {w₀ : World} (hB : w₀.heap.size ≤ B') : OwnFrom B' (fun (_ : β) W => HiKept E B w₀ W) :=
 fun _ X Y row hs hg hr => ⟨Nat.le_trans hs.1 hg.size, fun k o hk h0 ho => by
  have hX := hs.2 k o hk h0 ho
  refine (hg.block k (ags hX).1 (fun e => ?_)).trans hX
  have h1 := (hr k e.symm).1
  have h2 := (ags h0).1
  omega⟩
theorem wpIn_range_pxH {g : Operand} {ps : Array Tmp} {assign body : Code} {Q : Exit → Act → World → Prop} {a : Act} {w : World}
  (hro : F.round = none) (h1 : 1 ≤ n) {gf : Nat} {lb : Array Value} (hg : a.eval g = .func (.func gf) #[] lb) (hFg : F.fn gf) (eg : ∀ args w, (callFunc gf args).run P w = .ok (.enter gf args) w)
  {encs : Nat → Array Value} {N : Nat} (E : TypeId) (I : Nat → World → Prop) (Ix : Code → Nat → World → Prop) (hseq : SeqPx E F (n - 1) P gf lb encs I N w.heap.size) (hps : ∀ x, (encs x).size = ps.size)
  (hI : OwnFrom w.heap.size I) (hIx : ∀ c, OwnFrom w.heap.size (Ix c)) (h0 : I 0 w) (a₁ : Nat → Act)
  (hassign : ∀ (l : Nat) (x : Nat) (W : World) (K : Act → World → Prop), K (a₁ x) W →
   assign.wpIn (F.inRound l) (n - 1 - 1) P (Exit.then K (fun _ _ _ => False)) { tmps := (ps.zip (encs x)).foldl (fun t (p, v) => t.setIfInBounds p v) a.tmps, defers := [] } W)
  (hbody : ∀ (l k : Nat) (W : World), w.heap.size ≤ l → (∃ r, W.heap[l]? = some (.loop r)) → k < N → I k W → body.wpIn (F.inRound l) (n - 1 - 1) P (pxPost E I Ix k w.heap.size W) (a₁ k) W)
  (hdone : ∀ (D : Nat) (W : World), w.heap.size ≤ D → I N W → W.heap[D]? = some (.deferred (some [])) → Q .normal { a with defers := { target := .collected D, args := #[] } :: a.defers } W)
  (hstop : ∀ (D : Nat) (c : Code) (k : Nat) (W : World), w.heap.size ≤ D → k < N → Ix c k W → W.heap[D]? = some (.deferred (some [])) → c.wpIn F n P Q { a with defers := { target := .collected D, args := #[] } :: a.defers } W) :
  (Code.rangeFunc g ps assign body).wpIn F n P Q a w := by
 refine wpIn_rangeFunc ?_
 intro fn hfn
 rw [hro]
 obtain ⟨rc, hrc⟩ : ∃ rc : LoopState → Option Code → Loop, rc = fun st pe => { state := st, pending := pe, fn, tmps := a.tmps, params := ps, assign, body, defers := w.heap.size } := ⟨_, rfl⟩
 have hent := run_enterLoop_outer (P := P) (w := w) fn a.tmps ps assign body
 obtain ⟨W1, hW1⟩ : ∃ W1, W1 = (w.alloc (.deferred (some []))).alloc (.loop (rc .ready none)) := ⟨_, rfl⟩
 have rec1 : W1.heap[w.heap.size + 1]? = some (.loop (rc .ready none)) := by
  have e := World.alloc_heap_new (w.alloc (.deferred (some []))) (.loop (rc .ready none))
  rw [World.size_alloc] at e
  rw [hW1]; exact e
 have def1 : W1.heap[w.heap.size]? = some (.deferred (some [])) := by
  rw [hW1, Below.heap_alloc _ _ _ (by simp)]
  exact World.alloc_heap_new w _
 have inv1 : I 0 W1 := by rw [hW1]; exact hI.alloc _ (hI.alloc _ h0)
 have siz1 : w.heap.size + 2 ≤ W1.heap.size := by rw [hW1]; simp
 refine ⟨w.heap.size + 1, [{ target := .collected w.heap.size, args := #[] }], W1, { target := .fn (.func gf) lb, args := #[.func (.yield (w.heap.size + 1)) #[] #[]] }, W1, gf, #[.func (.yield (w.heap.size + 1)) #[] #[]] ++ lb, W1, ?_, ?_, ?_, ?_, fun _ => h1, ?_⟩
 ·rw [hW1, hrc]; exact hent
 ·simp only [resolve, hg]
  simp [go_sem]
 ·intro f' hf'
  simp [Target.leads] at hf'
  exact hf' ▸ hFg
 ·simp [invoke, go_sem, eg]
 have keep : ∀ {A B : World} {row : Option Nat} {k : Nat} {o : Obj}, A.grownBy B row → (∀ r, row = some r → W1.heap.size ≤ r ∧ ∃ o : Obj, A.heap[r]? = some o ∧ o.isCells = false) → k < w.heap.size + 2 → A.heap[k]? = some o → B.heap[k]? = some o := by
  intro A B row k o hgr hr hk ho
  exact (hgr.block _ (ags ho).1 (fun e => by have := (hr _ e.symm).1; omega)).trans ho
 have hw : ∀ {A : World} {row : Option Nat}, (∀ r, row = some r → W1.heap.size ≤ r ∧ ∃ o : Obj, A.heap[r]? = some o ∧ o.isCells = false) → ∀ r, row = some r → w.heap.size ≤ r ∧ ∃ o : Obj, A.heap[r]? = some o ∧ o.isCells = false := by
  intro A row hr r e
  obtain ⟨hB, ho⟩ := hr r e
  exact ⟨by omega, ho⟩
 refine (hseq (w.heap.size + 1) (fun k W => I k W ∧ W.heap[w.heap.size + 1]? = some (.loop (rc .ready none)) ∧ W.heap[w.heap.size]? = some (.deferred (some [])))
  (fun k W => ∃ c, Ix c k W ∧ W.heap[w.heap.size + 1]? = some (.loop (rc .done (some c))) ∧ W.heap[w.heap.size]? = some (.deferred (some []))) W1 (by omega) ?_ ?_ (fun _ _ h => h.1) ?_ ⟨inv1, rec1, def1⟩).mono ?_
 ·intro s A B row hs hgr hr
  exact ⟨hI s A B row hs.1 hgr (hw hr), keep hgr hr (by omega) hs.2.1, keep hgr hr (by omega) hs.2.2⟩
 ·intro s A B row hs hgr hr
  obtain ⟨c, hc, h2, h3⟩ := hs
  exact ⟨c, hIx c s A B row hc hgr (hw hr), keep hgr hr (by omega) h2, keep hgr hr (by omega) h3⟩
 ·-- a round
  rintro k W hkN ⟨hi, hl, hk⟩
  have hlt : w.heap.size + 1 < W.heap.size := (ags hl).1
  have hy := run_yield (P := P) (args := encs k) hl (by rw [hrc]; exact hps k)
  rw [hrc] at hy
  obtain ⟨U, hU⟩ : ∃ U, U = W.putObj (w.heap.size + 1) (.loop { rc .ready none with state := .busy }) := ⟨_, rfl⟩
  have recU : U.heap[w.heap.size + 1]? = some (.loop { rc .ready none with state := .busy }) := by rw [hU]; exact World.putObj_heap_same hlt
  have defU : U.heap[w.heap.size]? = some (.deferred (some [])) := by rw [hU]; exact (World.putObj_heap_other (by omega)).trans hk
  have invU : I k U := by rw [hU]; exact hI.putObj _ hi (by omega) hl rfl
  have h9 : U.heap.size = W.heap.size := by rw [hU]; simp [World.putObj]
  refine ⟨fn, _, assign, body, hy, roundIn_of_wpIn hfn (hassign _ k W _ ⟨_, run_beginRound hl (by rw [hrc]), ?_⟩)⟩
  rw [← hU]
  refine wpIn_mono (hbody _ k U (by omega) ⟨_, recU⟩ hkN invU) ?_
  have fin : ∀ (jump : Option Code) (W3 : World), HiKept E w.heap.size U W3 →
    (Instr.endRound (w.heap.size + 1) jump).run P W3 = .ok (.bool jump.isNone) (W3.putObj (w.heap.size + 1) (.loop (rc (if jump.isNone then .ready else .done) jump))) ∧
    W3.heap[w.heap.size + 1]? = some (.loop { rc .ready none with state := .busy }) ∧
    (W3.putObj (w.heap.size + 1) (.loop (rc (if jump.isNone then .ready else .done) jump))).heap[w.heap.size + 1]? = some (.loop (rc (if jump.isNone then .ready else .done) jump)) ∧
    (W3.putObj (w.heap.size + 1) (.loop (rc (if jump.isNone then .ready else .done) jump))).heap[w.heap.size]? = some (.deferred (some [])) ∧
    HiKept E W1.heap.size W (W3.putObj (w.heap.size + 1) (.loop (rc (if jump.isNone then .ready else .done) jump))) := fun jump W3 hk3 => by
   have rec3 := hk3.2 _ _ (by omega) recU rfl
   have def3 := hk3.2 _ _ (by omega) defU rfl
   have hend := run_endRound (P := P) jump rec3
   have lt3 : w.heap.size + 1 < W3.heap.size := (ags rec3).1
   rw [hrc] at hend rec3
   refine ⟨by rw [hrc]; exact hend, by rw [hrc]; exact rec3, World.putObj_heap_same lt3, (World.putObj_heap_other (by omega)).trans def3, ?_, ?_⟩
   ·have h8 := hk3.1
    simp only [World.putObj, Array.size_setIfInBounds]
    omega
   ·intro j o hjB hjl ho
    have hU' : U.heap[j]? = some o := by rw [hU]; exact (World.putObj_heap_other (by omega)).trans hjl
    exact (World.putObj_heap_other (by omega)).trans (hk3.2 _ _ (by omega) hU' ho)
  rintro e a3 W3 hp
  cases e with
  | normal =>
   obtain ⟨hk3, hi3⟩ := hp
   obtain ⟨hr, hl3, hl4, hk4, hH⟩ := fin none W3 hk3
   exact ⟨_, _, hr, .inl ⟨rfl, ⟨hI.putObj _ hi3 (by omega) hl3 rfl, hl4, hk4⟩, hH⟩⟩
  | ret =>
   obtain ⟨hk3, hi3⟩ := hp
   obtain ⟨hr, hl3, hl4, hk4, hH⟩ := fin (some .ret) W3 hk3
   exact ⟨_, _, hr, .inr ⟨rfl, ⟨.ret, (hIx _).putObj _ hi3 (by omega) hl3 rfl, hl4, hk4⟩, hH⟩⟩
  | exit id =>
   obtain ⟨hk3, hi3⟩ := hp
   obtain ⟨hr, hl3, hl4, hk4, hH⟩ := fin (some (.exit id)) W3 hk3
   exact ⟨_, _, hr, .inr ⟨rfl, ⟨.exit id, (hIx _).putObj _ hi3 (by omega) hl3 rfl, hl4, hk4⟩, hH⟩⟩
  | goto t =>
   obtain ⟨hk3, hi3⟩ := hp
   obtain ⟨hr, hl3, hl4, hk4, hH⟩ := fin (some (.goto t)) W3 hk3
   exact ⟨_, _, hr, .inr ⟨rfl, ⟨.goto t, (hIx _).putObj _ hi3 (by omega) hl3 rfl, hl4, hk4⟩, hH⟩⟩
  | panic ch => exact hp.elim
  | outgrown => exact hp.elim
 ·-- behind the iterator
  rintro e W2 ⟨⟨v, rfl⟩, ⟨hi, hl, hk⟩ | ⟨k, hkN, c, hi, hl, hk⟩⟩
  ·have hend := run_endLoop (P := P) hl (by rw [hrc]; simp)
   rw [hrc] at hend
   exact ⟨none, _, hend, hdone _ _ (Nat.le_refl _) (hI.putObj _ hi (by omega) hl rfl) ((World.putObj_heap_other (by omega)).trans hk)⟩
  ·have hend := run_endLoop (P := P) hl (by rw [hrc]; simp)
   rw [hrc] at hend
   exact ⟨some c, _, hend, hstop _ c k _ (Nat.le_refl _) hkN ((hIx c).putObj _ hi (by omega) hl rfl) ((World.putObj_heap_other (by omega)).trans hk)⟩
theorem wpIn_range_paN {g : Operand} {ps : Array Tmp} {assign body : Code} {Q : Exit → Act → World → Prop} {a : Act} {w : World}
  {l₀ : Nat} {r₀ : Loop} (hro : F.round = some l₀) (hl₀ : w.heap[l₀]? = some (.loop r₀)) (h1 : 1 ≤ n) {gf : Nat} {lb : Array Value} (hg : a.eval g = .func (.func gf) #[] lb) (hFg : F.fn gf) (eg : ∀ args w, (callFunc gf args).run P w = .ok (.enter gf args) w)
  {encs : Nat → Array Value} {N : Nat} (E : TypeId) (I : Nat → World → Prop) (Ix : Code → Nat → World → Prop) (hseq : SeqPx E F (n - 1) P gf lb encs I N w.heap.size) (hps : ∀ x, (encs x).size = ps.size)
  (hI : OwnFrom w.heap.size I) (hIx : ∀ c, OwnFrom w.heap.size (Ix c)) (h0 : I 0 w) (ob : Nat → Obj) (hob : ∀ x, (ob x).isCells = true) (a₁ : Nat → Nat → Act)
  (hassign : ∀ (l : Nat) (x : Nat) (W : World) (K : Act → World → Prop), K (a₁ x W.heap.size) (W.alloc (ob x)) →
   assign.wpIn (F.inRound l) (n - 1 - 1) P (Exit.then K (fun _ _ _ => False)) { tmps := (ps.zip (encs x)).foldl (fun t (p, v) => t.setIfInBounds p v) a.tmps, defers := [] } W)
  (hbody : ∀ (l k s : Nat) (W : World), k < N → I k W → w.heap.size ≤ s → W.heap[s]? = some (ob k) → body.wpIn (F.inRound l) (n - 1 - 1) P (pxPost E I Ix k w.heap.size W) (a₁ k s) W)
  (hdone : ∀ (W : World), I N W → Q .normal a W)
  (hstop : ∀ (c : Code) (k : Nat) (W : World), k < N → Ix c k W → c.wpIn F n P Q a W) :
  (Code.rangeFunc g ps assign body).wpIn F n P Q a w := by
 refine wpIn_rangeFunc ?_
 intro fn hfn
 rw [hro]
 obtain ⟨rc, hrc⟩ : ∃ rc : LoopState → Option Code → Loop, rc = fun st pe => { state := st, pending := pe, fn, tmps := a.tmps, params := ps, assign, body, defers := r₀.defers } := ⟨_, rfl⟩
 obtain ⟨W1, hW1⟩ : ∃ W1, W1 = w.alloc (.loop (rc .ready none)) := ⟨_, rfl⟩
 have rec1 : W1.heap[w.heap.size]? = some (.loop (rc .ready none)) := by rw [hW1]; exact World.alloc_heap_new w _
 have inv1 : I 0 W1 := by rw [hW1]; exact hI.alloc _ h0
 have siz1 : w.heap.size + 1 ≤ W1.heap.size := by rw [hW1]; simp
 refine ⟨w.heap.size, [], W1, { target := .fn (.func gf) lb, args := #[.func (.yield w.heap.size) #[] #[]] }, W1, gf, #[.func (.yield w.heap.size) #[] #[]] ++ lb, W1, ?_, ?_, ?_, ?_, fun _ => h1, ?_⟩
 ·rw [hW1, hrc]; exact run_enterLoop_inner hl₀ _ _ _ _ _
 ·simp only [resolve, hg]
  simp [go_sem]
 ·intro f' hf'
  simp [Target.leads] at hf'
  exact hf' ▸ hFg
 ·simp [invoke, go_sem, eg]
 have keep : ∀ {A B : World} {row : Option Nat} {k : Nat} {o : Obj}, A.grownBy B row → (∀ r, row = some r → W1.heap.size ≤ r ∧ ∃ o : Obj, A.heap[r]? = some o ∧ o.isCells = false) → k < w.heap.size + 1 → A.heap[k]? = some o → B.heap[k]? = some o := by
  intro A B row k o hgr hr hk ho
  exact (hgr.block _ (ags ho).1 (fun e => by have := (hr _ e.symm).1; omega)).trans ho
 have hw : ∀ {A : World} {row : Option Nat}, (∀ r, row = some r → W1.heap.size ≤ r ∧ ∃ o : Obj, A.heap[r]? = some o ∧ o.isCells = false) → ∀ r, row = some r → w.heap.size ≤ r ∧ ∃ o : Obj, A.heap[r]? = some o ∧ o.isCells = false := by
  intro A row hr r e
  obtain ⟨hB, ho⟩ := hr r e
  exact ⟨by omega, ho⟩
 refine (hseq (w.heap.size) (fun k W => I k W ∧ W.heap[w.heap.size]? = some (.loop (rc .ready none)))
  (fun k W => ∃ c, Ix c k W ∧ W.heap[w.heap.size]? = some (.loop (rc .done (some c)))) W1 (by omega) ?_ ?_ (fun _ _ h => h.1) ?_ ⟨inv1, rec1⟩).mono ?_
 ·intro s A B row hs hgr hr
  exact ⟨hI s A B row hs.1 hgr (hw hr), keep hgr hr (by omega) hs.2⟩
 ·intro s A B row hs hgr hr
  obtain ⟨c, hc, h2⟩ := hs
  exact ⟨c, hIx c s A B row hc hgr (hw hr), keep hgr hr (by omega) h2⟩
 ·-- a round
  rintro k W hkN ⟨hi, hl⟩
  have hlt : w.heap.size < W.heap.size := (ags hl).1
  have hy := run_yield (P := P) (args := encs k) hl (by rw [hrc]; exact hps k)
  rw [hrc] at hy
  have hl' : (W.alloc (ob k)).heap[w.heap.size]? = some (.loop (rc .ready none)) := (Below.heap_alloc _ _ _ (by omega)).trans hl
  have hlt' : w.heap.size < (W.alloc (ob k)).heap.size := (ags hl').1
  obtain ⟨U, hU⟩ : ∃ U, U = (W.alloc (ob k)).putObj (w.heap.size) (.loop { rc .ready none with state := .busy }) := ⟨_, rfl⟩
  have recU : U.heap[w.heap.size]? = some (.loop { rc .ready none with state := .busy }) := by rw [hU]; exact World.putObj_heap_same hlt'
  have invU : I k U := by rw [hU]; exact hI.putObj _ (hI.alloc _ hi) (by omega) hl' rfl
  have boxU : U.heap[W.heap.size]? = some (ob k) := by rw [hU]; exact (World.putObj_heap_other (by omega)).trans (World.alloc_heap_new _ _)
  have h9 : U.heap.size = W.heap.size + 1 := by rw [hU]; simp [World.putObj]
  refine ⟨fn, _, assign, body, hy, roundIn_of_wpIn hfn (hassign _ k W _ ⟨_, run_beginRound hl' (by rw [hrc]), ?_⟩)⟩
  rw [← hU]
  refine wpIn_mono (hbody _ k W.heap.size U hkN invU (by omega) boxU) ?_
  have fin : ∀ (jump : Option Code) (W3 : World), HiKept E w.heap.size U W3 →
    (Instr.endRound (w.heap.size) jump).run P W3 = .ok (.bool jump.isNone) (W3.putObj (w.heap.size) (.loop (rc (if jump.isNone then .ready else .done) jump))) ∧
    W3.heap[w.heap.size]? = some (.loop { rc .ready none with state := .busy }) ∧
    (W3.putObj (w.heap.size) (.loop (rc (if jump.isNone then .ready else .done) jump))).heap[w.heap.size]? = some (.loop (rc (if jump.isNone then .ready else .done) jump)) ∧
    HiKept E W1.heap.size W (W3.putObj (w.heap.size) (.loop (rc (if jump.isNone then .ready else .done) jump))) := fun jump W3 hk3 => by
   have rec3 := hk3.2 _ _ (by omega) recU rfl
   have hend := run_endRound (P := P) jump rec3
   have lt3 : w.heap.size < W3.heap.size := (ags rec3).1
   rw [hrc] at hend rec3
   refine ⟨by rw [hrc]; exact hend, by rw [hrc]; exact rec3, World.putObj_heap_same lt3, ?_, ?_⟩
   ·have h8 := hk3.1
    simp only [World.putObj, Array.size_setIfInBounds]
    omega
   ·intro j o hjB hjl ho
    have hU' : U.heap[j]? = some o := by rw [hU]; exact (World.putObj_heap_other (by omega)).trans ((Below.heap_alloc _ _ _ (ags hjl).1).trans hjl)
    exact (World.putObj_heap_other (by omega)).trans (hk3.2 _ _ (by omega) hU' ho)
  rintro e a3 W3 hp
  cases e with
  | normal =>
   obtain ⟨hk3, hi3⟩ := hp
   obtain ⟨hr, hl3, hl4, hH⟩ := fin none W3 hk3
   exact ⟨_, _, hr, .inl ⟨rfl, ⟨hI.putObj _ hi3 (by omega) hl3 rfl, hl4⟩, hH⟩⟩
  | ret =>
   obtain ⟨hk3, hi3⟩ := hp
   obtain ⟨hr, hl3, hl4, hH⟩ := fin (some .ret) W3 hk3
   exact ⟨_, _, hr, .inr ⟨rfl, ⟨.ret, (hIx _).putObj _ hi3 (by omega) hl3 rfl, hl4⟩, hH⟩⟩
  | exit id =>
   obtain ⟨hk3, hi3⟩ := hp
   obtain ⟨hr, hl3, hl4, hH⟩ := fin (some (.exit id)) W3 hk3
   exact ⟨_, _, hr, .inr ⟨rfl, ⟨.exit id, (hIx _).putObj _ hi3 (by omega) hl3 rfl, hl4⟩, hH⟩⟩
  | goto t =>
   obtain ⟨hk3, hi3⟩ := hp
   obtain ⟨hr, hl3, hl4, hH⟩ := fin (some (.goto t)) W3 hk3
   exact ⟨_, _, hr, .inr ⟨rfl, ⟨.goto t, (hIx _).putObj _ hi3 (by omega) hl3 rfl, hl4⟩, hH⟩⟩
  | panic ch => exact hp.elim
  | outgrown => exact hp.elim
 ·-- behind the iterator
  rintro e W2 ⟨⟨v, rfl⟩, ⟨hi, hl⟩ | ⟨k, hkN, c, hi, hl⟩⟩
  ·have hend := run_endLoop (P := P) hl (by rw [hrc]; simp)
   rw [hrc] at hend
   exact ⟨none, _, hend, hdone _ (hI.putObj _ hi (by omega) hl rfl)⟩
  ·have hend := run_endLoop (P := P) hl (by rw [hrc]; simp)
   rw [hrc] at hend
   exact ⟨some c, _, hend, hstop c k _ hkN ((hIx c).putObj _ hi (by omega) hl rfl)⟩
end
section
attribute [local go_sem] Oper.semAt_some
namespace TabS
def Reads (pb b o : Nat) (v : Value) (N : Nat) (keys : Nat → Int) (W : World) : Prop :=
 W.cell? ⟨pb, 0, none⟩ = some (.pointer (some ⟨b, o, none⟩)) ∧ W.cell? ⟨b, o, none⟩ = some v ∧ ∀ g, v.ownBlock = some g → ∀ k, k < N → W.cell? ⟨g, k * 2, none⟩ = some (.int .i64 (keys k))
def encT (v : Value) (keys : Nat → Int) (k : Nat) : Array Value := #[.int .i64 (keys k), .pointer (v.ownBlock.map fun g => ⟨g, k * 2 + 1, none⟩)]
theorem eachT_px (E : TypeId) (q pb b o N B : Nat) (v : Value) (keys : Nat → Int) (I : Nat → World → Prop) (hv : (v = .slice none 0 0 ∧ N = 0) ∨ ∃ g c, v = .slice (some ⟨g, 0, none⟩) N c) (hN : N ≤ 1000000) (hI : ∀ k W, I k W → Reads pb b o v N keys W) :
  SeqPx E Fence.wide (q + 1) Tryz.prog 128 #[.pointer (some ⟨pb, 0, none⟩)] (encT v keys) I N B := by
 intro l J Jx W hBW hAb hAx hJI hY h0
 have hR0 := hI _ _ (hJI _ _ h0)
 have hbp : W.cell? ⟨pb, 0, none⟩ = some (.pointer (some ⟨b, o, none⟩)) := hR0.1
 have hbb : W.cell? ⟨b, o, none⟩ = some v := hR0.2.1
 have HY := hid hY
 have HAB := hid hAb
 have HI := hid (fun k W h => hI k W (hJI k W h))
 clear hY hAb hAx hI hJI hR0
 rcases hv with ⟨rfl, rfl⟩ | ⟨g, c, rfl⟩
 ·have H0 := hid h0
  clear h0
  refine callsIn_of_wp Tryz.func128 rfl trivial ?_ rfl
  simp only [Tryz.ntmps128, List.size_toArray, List.length_cons, List.length_nil, Nat.reduceAdd, Nat.reduceSub, Array.replicate_succ, Array.replicate_zero, List.push_toArray, List.append_toArray, List.nil_append, List.cons_append]
  gi_wp2
  clear hbp hbb
  gi_loopw [9, 3] (fun i x wr => i = .int .i64 0 ∧ J 0 wr) (fun i _ _ => 0)
  case atStart => exact ⟨rfl, H0.out⟩
  case round =>
   obtain ⟨rfl, hJ⟩ := hrel
   have HJ := hid hJ
   clear hJ
   gi_wp2
   go_end0
   exact ⟨⟨_, rfl⟩, .inl HJ.out⟩
 ·refine callsIn_of_wp Tryz.func128 rfl trivial ?_ rfl
  simp only [Tryz.ntmps128, List.size_toArray, List.length_cons, List.length_nil, Nat.reduceAdd, Nat.reduceSub, Array.replicate_succ, Array.replicate_zero, List.push_toArray, List.append_toArray, List.nil_append, List.cons_append]
  gi_wp2
  clear hbp hbb
  gi_loopw [9, 3] (fun i x wr => ∃ k : Nat, k ≤ N ∧ i = .int .i64 k ∧ J k wr) (fun i _ _ => N - (intOf i).toNat)
  case atStart => exact ⟨0, Nat.zero_le _, rfl, h0⟩
  case round =>
   obtain ⟨k, hk, rfl, hJ⟩ := hrel
   by_cases hlt : k < N
   ·obtain ⟨c0, c1, c2'⟩ := HI.out _ _ hJ
    have c2 := c2' g rfl k hlt
    have hltI : (k : Int) < N := by omega
    have hJd : J k wr.drew := HAB.out _ wr wr.drew none hJ ⟨rfl, rfl, rfl, Nat.le_refl _, fun _ _ _ => rfl⟩ (fun r e => by cases e)
    obtain ⟨fn, tmps, assign, body, hy, hR⟩ := HY.out k wr.drew hlt hJd
    unfold encT at hy
    (try dsimp only [Value.ownBlock, Option.map] at hy)
    have HR := hid (hR.mono (fun e W' h => two_ways (A := fun W' => J (k + 1) W' ∧ HiKept E W.heap.size wr.drew W') (B := fun W' => Jx k W' ∧ HiKept E W.heap.size wr.drew W') h))
    clear hR hJ hJd c2'
    generalize hkk : keys k = kk at *
    clear hkk
    gi_wp2
    gi_region_with (first | (refine HR.out.mono ?_; rintro e W' ⟨t, rfl, ht⟩))
    all_goals
     cases t
     ·have hJx := ht.2 rfl
      gi_wp2
      first
       | refine bodyPost_ret (results_none rfl _ _ _) rfl ?_
       | go_end0
      exact ⟨⟨_, rfl⟩, .inr ⟨k, hlt, hJx.1⟩⟩
     ·obtain ⟨hJ', hK'⟩ := ht.1 rfl
      gi_wp2
      go_roundw
      case rel => exact ⟨k + 1, by omega, by go_num, hJ'⟩
      case measure => first | (simp [intOf]; done) | (simp [intOf]; omega)
   ·obtain rfl : k = N := by omega
    have HJ := hid hJ
    clear hJ
    gi_wp2
    go_end0
    exact ⟨⟨_, rfl⟩, .inl HJ.out⟩
theorem each_in (n : Nat) (b o : Nat) (w : World) :
  CallsIn Fence.wide n Tryz.prog 118 #[.pointer (some ⟨b, o, none⟩)] w fun e w' => e = .returned (.func (.func 128) #[] #[.pointer (some ⟨w.heap.size, 0, none⟩)]) ∧ w' = w.alloc (.cells #[.pointer (some ⟨b, o, none⟩)] 158) := by
 refine callsIn_of_wp Tryz.func118 rfl trivial ?_ rfl
 simp only [Tryz.ntmps118, List.size_toArray, List.length_cons, List.length_nil, Nat.reduceAdd, Nat.reduceSub, Array.replicate_succ, Array.replicate_zero, List.push_toArray, List.append_toArray, List.nil_append, List.cons_append]
 gi_wp2
 go_ret
 exact ⟨rfl, rfl⟩
end TabS
end
end Go.Proofs.YtchjfeafkmpmbaaGreatDoor
