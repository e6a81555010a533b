import Derived.Test.YtchjfeafkmpmbaaGreatDoorPkay
import Derived.RegionTactic
import Derived.Test.YtchjfeafkmpmbaaGreatDoorFrame
namespace Go.Proofs.YtchjfeafkmpmbaaGreatDoor
set_option linter.unusedVariables false
set_option linter.unusedSimpArgs false
set_option maxRecDepth 100000
set_option maxHeartbeats 8000000
open Lib (hid)
section
namespace CX
open Go.ChangeShapes Go.WideShapes Go.ChangeAt Go.RowKit
def capAt (w : World) (k : Nat) (a b c d e f g h : Int) : Prop :=
 w.cell? ⟨k, 0, none⟩ = some (.int .i64 a) ∧ w.cell? ⟨k, 1, none⟩ = some (.int .i64 b) ∧ w.cell? ⟨k, 2, none⟩ = some (.int .i64 c) ∧ w.cell? ⟨k, 3, none⟩ = some (.int .u64 d) ∧ w.cell? ⟨k, 4, none⟩ = some (.int .i64 e) ∧ w.cell? ⟨k, 5, none⟩ = some (.int .i64 f) ∧ w.cell? ⟨k, 6, none⟩ = some (.int .i64 g) ∧ w.cell? ⟨k, 7, none⟩ = some (.int .i64 h)
theorem capAt.kept {n k : Nat} {w w' : World} {a b c d e f g h : Int} (q : capAt w k a b c d e f g h) (hk : k < n) (h' : Kept n w w') : capAt w' k a b c d e f g h :=
 ⟨h'.cell hk q.1, h'.cell hk q.2.1, h'.cell hk q.2.2.1, h'.cell hk q.2.2.2.1, h'.cell hk q.2.2.2.2.1, h'.cell hk q.2.2.2.2.2.1, h'.cell hk q.2.2.2.2.2.2.1, h'.cell hk q.2.2.2.2.2.2.2⟩
theorem capAt_new (w : World) (T : TypeId) (a b c d e f g h : Int) : capAt (w.alloc (.cells #[.int .i64 a, .int .i64 b, .int .i64 c, .int .u64 d, .int .i64 e, .int .i64 f, .int .i64 g, .int .i64 h] T)) w.heap.size a b c d e f g h := by
 refine ⟨?_, ?_, ?_, ?_, ?_, ?_, ?_, ?_⟩
 all_goals simp
theorem capAt.call {k : Nat} {w w' : World} {a b c d e f g h : Int} (q : capAt w k a b c d e f g h) (hk : k < w.heap.size) (hb : Below w.heap.size w w') : capAt w' k a b c d e f g h :=
 q.kept hk ⟨hb, hb.size⟩
theorem capAt.alloc {k : Nat} {w : World} {a b c d e f g h : Int} (q : capAt w k a b c d e f g h) (hk : k < w.heap.size) (o : Obj) : capAt (w.alloc o) k a b c d e f g h :=
 q.kept hk ((Kept.refl (Nat.le_refl _)).alloc o)
theorem badged_hi (a b c d e f g h n : Int) (W : World) (hn : 16777215 < n) : Calls Tryz.prog 100 #[capV a b c d e f g h, .int .u64 n] W fun r W' => r = .returned (.tuple #[zcap, .int .i64 3]) ∧ Below W.heap.size W W' := by
 go_enter Tryz.func100, Tryz.ntmps100
 go_wp2
 exact bodyPost_ret (v := .tuple #[zcap, .int .i64 3]) (by simp [results, Tryz.results100, go_sem]) rfl ⟨rfl, bal (bal (Below.refl _ _) _) _⟩
theorem badged_had (a b c d e f g h n : Int) (W : World) (hn : n ≤ 16777215) (hd : d ≠ 0) : Calls Tryz.prog 100 #[capV a b c d e f g h, .int .u64 n] W fun r W' => r = .returned (.tuple #[zcap, .int .i64 9]) ∧ Below W.heap.size W W' := by
 have hd' : (d == 0) = false := beq_eq_false_iff_ne.2 hd
 have hd'' : (d != 0) = true := bne_iff_ne.2 hd
 go_enter Tryz.func100, Tryz.ntmps100
 go_wp2
 exact bodyPost_ret (v := .tuple #[zcap, .int .i64 9]) (by simp [results, Tryz.results100, go_sem]) rfl ⟨rfl, bal (bal (Below.refl _ _) _) _⟩
theorem badged_yes (a b c e f g h n : Int) (W : World) (hn : n ≤ 16777215) : Calls Tryz.prog 100 #[capV a b c 0 e f g h, .int .u64 n] W fun r W' => r = .returned (.tuple #[capV a b c n e f g h, .int .i64 0]) ∧ Below W.heap.size W W' := by
 go_enter Tryz.func100, Tryz.ntmps100
 go_wp2
 exact bodyPost_ret (v := .tuple #[capV a b c n e f g h, .int .i64 0]) (by simp [results, Tryz.results100, go_sem]) rfl ⟨rfl, bal (bal (Below.refl _ _) _) _⟩
theorem guarded_hi (a b c d e f g h : Int) (n : Nat) (W : World) (hT : TabG W) (hn : n < 2 ^ 64) (hf : fitsB n 16 = false) : Calls Tryz.prog 101 #[capV a b c d e f g h, .int .u64 n] W fun r W' => r = .returned (.tuple #[zcap, .int .i64 3]) ∧ Below W.heap.size W W' := by
 go_enter Tryz.func101, Tryz.ntmps101
 go_wp2_with (first | (go_at_call 98; refine (fits_any n 16 _ hn (hT.call (bal (bal (Below.refl _ _) _) _)).1 (hT.call (bal (bal (Below.refl _ _) _) _)).2).mono ?_; rw [hf]; rintro x w1 ⟨rfl, hb1⟩; obtain ⟨hc1, hf1⟩ := bcell hb1; have hz1 : W.heap.size + 1 < w1.heap.size := (by have := hb1.size; simp at this; omega)))
 exact bodyPost_ret (v := .tuple #[zcap, .int .i64 3]) (by simp [results, Tryz.results101, go_sem, hc1]) rfl ⟨rfl, (by repeat (first | with_reducible exact Below.refl _ _ | with_reducible assumption | with_reducible refine bal ?_ _ | with_reducible refine bgo ?_ (by with_reducible assumption) | refine Below.setCell ?_ (by first | exact Nat.le_refl _ | (simp; done) | (simp; omega)) _))⟩
theorem guarded_no (a b c d e f g h : Int) (n : Nat) (W : World) (hT : TabG W) (hn : n < 65536) (hf : fitsB n 16 = true) (hk : capB a b c d (n % 4096) (n / 4096) g h = false) : Calls Tryz.prog 101 #[capV a b c d e f g h, .int .u64 n] W fun r W' => r = .returned (.tuple #[zcap, .int .i64 3]) ∧ Below W.heap.size W W' := by
 have hn' : n < 2 ^ 64 := by omega
 have h12 : Wd.onesN 12 = 4095 := by decide
 have hb := Wd.and_ones n 12 (by omega) (by decide) (by decide)
 rw [h12] at hb
 have HK := hid hk
 clear hk
 have u1 : ((n : Int) % 4096) ≤ 9223372036854775807 := by omega
 have q0 := ((capAt_new W 33 a b c d e f g h).alloc (by simp) (.cells #[.int .i64 0, .int .i64 0, .int .i64 0, .int .u64 0, .int .i64 0, .int .i64 0, .int .i64 0, .int .i64 0] 33))
 have Q0 := hid q0
 clear q0
 go_enter Tryz.func101, Tryz.ntmps101
 go_wp2_with (first
  | (go_at_call 98; refine (fits_any n 16 _ hn' (hT.call (bal (bal (Below.refl _ _) _) _)).1 (hT.call (bal (bal (Below.refl _ _) _) _)).2).mono ?_; rw [hf]; rintro x w1 ⟨rfl, hb1⟩; have hz1 : W.heap.size + 1 < w1.heap.size := (by have := hb1.size; simp at this; omega); have hz0 : W.heap.size < w1.heap.size := (by omega); obtain ⟨q0, q1, q2, q3, q4, q5, q6, q7⟩ := Q0.out.call (by simp; omega) hb1; obtain ⟨hc1, hf1⟩ := bcell hb1)
  | (go_at_call 120; refine (Wd.ones_any 12 _).mono ?_; rw [h12]; rintro x w2 ⟨rfl, rfl⟩)
  | (go_at_call 15; refine (capMay _ _ _ _ _ _ _ _ _ (by exact hT.call (by repeat (first | with_reducible exact Below.refl _ _ | with_reducible assumption | with_reducible refine bal ?_ _ | with_reducible refine bgo ?_ (by with_reducible assumption) | refine Below.setCell ?_ (by first | exact Nat.le_refl _ | (simp; done) | (simp; omega)) _))) u1).mono ?_; rw [HK.out]; rintro x w3 ⟨rfl, hb3⟩; obtain ⟨hc3, hf3⟩ := bcell hb3; have hy := hb3.size; simp at hy; have hz30 : W.heap.size < w3.heap.size := (by omega); have hz31 : W.heap.size + 1 < w3.heap.size := (by omega); clear hy))
 all_goals exact bodyPost_ret (v := .tuple #[zcap, .int .i64 3]) (by simp [results, Tryz.results101, go_sem, hc1, hc3, hz0, hz1, hz30, hz31]) rfl ⟨rfl, (by repeat (first | with_reducible exact Below.refl _ _ | with_reducible assumption | with_reducible refine bal ?_ _ | with_reducible refine bgo ?_ (by with_reducible assumption) | refine Below.setCell ?_ (by first | exact Nat.le_refl _ | (simp; done) | (simp; omega)) _))⟩
theorem guarded_yes (a b c d e f g h : Int) (n : Nat) (W : World) (hT : TabG W) (hn : n < 65536) (hf : fitsB n 16 = true) (hk : capB a b c d (n % 4096) (n / 4096) g h = true) : Calls Tryz.prog 101 #[capV a b c d e f g h, .int .u64 n] W fun r W' => r = .returned (.tuple #[capV a b c d (n % 4096) (n / 4096) g h, .int .i64 0]) ∧ Below W.heap.size W W' := by
 have hn' : n < 2 ^ 64 := by omega
 have h12 : Wd.onesN 12 = 4095 := by decide
 have hb := Wd.and_ones n 12 (by omega) (by decide) (by decide)
 rw [h12] at hb
 have HK := hid hk
 clear hk
 have u1 : ((n : Int) % 4096) ≤ 9223372036854775807 := by omega
 have q0 := ((capAt_new W 33 a b c d e f g h).alloc (by simp) (.cells #[.int .i64 0, .int .i64 0, .int .i64 0, .int .u64 0, .int .i64 0, .int .i64 0, .int .i64 0, .int .i64 0] 33))
 have Q0 := hid q0
 clear q0
 go_enter Tryz.func101, Tryz.ntmps101
 go_wp2_with (first
  | (go_at_call 98; refine (fits_any n 16 _ hn' (hT.call (bal (bal (Below.refl _ _) _) _)).1 (hT.call (bal (bal (Below.refl _ _) _) _)).2).mono ?_; rw [hf]; rintro x w1 ⟨rfl, hb1⟩; have hz1 : W.heap.size + 1 < w1.heap.size := (by have := hb1.size; simp at this; omega); have hz0 : W.heap.size < w1.heap.size := (by omega); obtain ⟨q0, q1, q2, q3, q4, q5, q6, q7⟩ := Q0.out.call (by simp; omega) hb1; obtain ⟨hc1, hf1⟩ := bcell hb1)
  | (go_at_call 120; refine (Wd.ones_any 12 _).mono ?_; rw [h12]; rintro x w2 ⟨rfl, rfl⟩)
  | (go_at_call 15; refine (capMay _ _ _ _ _ _ _ _ _ (by exact hT.call (by repeat (first | with_reducible exact Below.refl _ _ | with_reducible assumption | with_reducible refine bal ?_ _ | with_reducible refine bgo ?_ (by with_reducible assumption) | refine Below.setCell ?_ (by first | exact Nat.le_refl _ | (simp; done) | (simp; omega)) _))) u1).mono ?_; rw [HK.out]; rintro x w3 ⟨rfl, hb3⟩; obtain ⟨hc3, hf3⟩ := bcell hb3; have hy := hb3.size; simp at hy; have hz30 : W.heap.size < w3.heap.size := (by omega); have hz31 : W.heap.size + 1 < w3.heap.size := (by omega); clear hy))
 all_goals exact bodyPost_ret (v := .tuple #[capV a b c d (n % 4096) (n / 4096) g h, .int .i64 0]) (by simp [results, Tryz.results101, go_sem, hc1, hc3, hz0, hz1, hz30, hz31]) rfl ⟨rfl, (by repeat (first | with_reducible exact Below.refl _ _ | with_reducible assumption | with_reducible refine bal ?_ _ | with_reducible refine bgo ?_ (by with_reducible assumption) | refine Below.setCell ?_ (by first | exact Nat.le_refl _ | (simp; done) | (simp; omega)) _))⟩
theorem rcopy_bad1 (a b c d e f g h m : Int) (W : World) (hx : capB a b c d e f g h = false) :
  Calls Tryz.prog 88 #[capV a b c d e f g h, .int .i64 m] W fun r W' => r = .returned (.tuple #[zcap, .int .i64 2]) ∧ Below W.heap.size W W' := by
 have HX := hid hx
 clear hx
 all_goals
  go_enter Tryz.func88, Tryz.ntmps88
  go_wp2_with (first
   | (go_at_call 110; refine (refMay13 _ _ _ _ _ _ _ _ _).mono ?_; rw [HX.out]; rintro r w1 ⟨rfl, hb1⟩; obtain ⟨hc1, hf1⟩ := bcell hb1; have hz1 : W.heap.size + 1 < w1.heap.size := (by have := hb1.size; simp at this; omega); have hz0 : W.heap.size < w1.heap.size := (by omega); have p2 : w1.cell? ⟨W.heap.size, 2, none⟩ = some (.int .i64 c) := ((hc1 _ _ (by simp; omega)).trans (by simp)); have p6 : w1.cell? ⟨W.heap.size, 6, none⟩ = some (.int .i64 g) := ((hc1 _ _ (by simp; omega)).trans (by simp)); have p7 : w1.cell? ⟨W.heap.size, 7, none⟩ = some (.int .i64 h) := ((hc1 _ _ (by simp; omega)).trans (by simp)))
   | (go_at_call 111; refine (refMay9 _ _).mono ?_; rw [HM.out]; rintro r w2 ⟨rfl, rfl⟩))
  all_goals
   exact bodyPost_ret (v := .tuple #[zcap, .int .i64 2]) (by simp [results, Tryz.results88, go_sem, hc1, hz1]) rfl ⟨rfl, (by repeat (first | with_reducible exact Below.refl _ _ | with_reducible assumption | with_reducible refine below_drewN ?_ _ | with_reducible refine Below.drew ?_ | with_reducible refine bal ?_ _ | with_reducible refine bgo ?_ (by with_reducible assumption) | refine Below.setCell ?_ (by first | exact Nat.le_refl _ | (simp; done) | (simp; omega)) _))⟩
theorem rcopy_bad2 (a b c d e f g h m : Int) (W : World) (hx : capB a b c d e f g h = true) (hm : mayB m = false) :
  Calls Tryz.prog 88 #[capV a b c d e f g h, .int .i64 m] W fun r W' => r = .returned (.tuple #[zcap, .int .i64 2]) ∧ Below W.heap.size W W' := by
 have HX := hid hx
 have HM := hid hm
 clear hx hm
 all_goals
  go_enter Tryz.func88, Tryz.ntmps88
  go_wp2_with (first
   | (go_at_call 110; refine (refMay13 _ _ _ _ _ _ _ _ _).mono ?_; rw [HX.out]; rintro r w1 ⟨rfl, hb1⟩; obtain ⟨hc1, hf1⟩ := bcell hb1; have hz1 : W.heap.size + 1 < w1.heap.size := (by have := hb1.size; simp at this; omega); have hz0 : W.heap.size < w1.heap.size := (by omega); have p2 : w1.cell? ⟨W.heap.size, 2, none⟩ = some (.int .i64 c) := ((hc1 _ _ (by simp; omega)).trans (by simp)); have p6 : w1.cell? ⟨W.heap.size, 6, none⟩ = some (.int .i64 g) := ((hc1 _ _ (by simp; omega)).trans (by simp)); have p7 : w1.cell? ⟨W.heap.size, 7, none⟩ = some (.int .i64 h) := ((hc1 _ _ (by simp; omega)).trans (by simp)))
   | (go_at_call 111; refine (refMay9 _ _).mono ?_; rw [HM.out]; rintro r w2 ⟨rfl, rfl⟩))
  all_goals
   exact bodyPost_ret (v := .tuple #[zcap, .int .i64 2]) (by simp [results, Tryz.results88, go_sem, hc1, hz1]) rfl ⟨rfl, (by repeat (first | with_reducible exact Below.refl _ _ | with_reducible assumption | with_reducible refine below_drewN ?_ _ | with_reducible refine Below.drew ?_ | with_reducible refine bal ?_ _ | with_reducible refine bgo ?_ (by with_reducible assumption) | refine Below.setCell ?_ (by first | exact Nat.le_refl _ | (simp; done) | (simp; omega)) _))⟩
theorem rcopy_k0 (a b c d e f g h m : Int) (W : World) (hx : capB a b c d e f g h = true) (hm : mayB m = true) (ha : a = 0) :
  Calls Tryz.prog 88 #[capV a b c d e f g h, .int .i64 m] W fun r W' => r = .returned (.tuple #[zcap, .int .i64 10]) ∧ Below W.heap.size W W' := by
 have HX := hid hx
 have HM := hid hm
 clear hx hm
 subst ha
 all_goals
  go_enter Tryz.func88, Tryz.ntmps88
  go_wp2_with (first
   | (go_at_call 110; refine (refMay13 _ _ _ _ _ _ _ _ _).mono ?_; rw [HX.out]; rintro r w1 ⟨rfl, hb1⟩; obtain ⟨hc1, hf1⟩ := bcell hb1; have hz1 : W.heap.size + 1 < w1.heap.size := (by have := hb1.size; simp at this; omega); have hz0 : W.heap.size < w1.heap.size := (by omega); have p2 : w1.cell? ⟨W.heap.size, 2, none⟩ = some (.int .i64 c) := ((hc1 _ _ (by simp; omega)).trans (by simp)); have p6 : w1.cell? ⟨W.heap.size, 6, none⟩ = some (.int .i64 g) := ((hc1 _ _ (by simp; omega)).trans (by simp)); have p7 : w1.cell? ⟨W.heap.size, 7, none⟩ = some (.int .i64 h) := ((hc1 _ _ (by simp; omega)).trans (by simp)))
   | (go_at_call 111; refine (refMay9 _ _).mono ?_; rw [HM.out]; rintro r w2 ⟨rfl, rfl⟩))
  all_goals
   exact bodyPost_ret (v := .tuple #[zcap, .int .i64 10]) (by simp [results, Tryz.results88, go_sem, hc1, hz1]) rfl ⟨rfl, (by repeat (first | with_reducible exact Below.refl _ _ | with_reducible assumption | with_reducible refine below_drewN ?_ _ | with_reducible refine Below.drew ?_ | with_reducible refine bal ?_ _ | with_reducible refine bgo ?_ (by with_reducible assumption) | refine Below.setCell ?_ (by first | exact Nat.le_refl _ | (simp; done) | (simp; omega)) _))⟩
theorem rcopy_k1 (a b c d e f g h m : Int) (W : World) (hx : capB a b c d e f g h = true) (hm : mayB m = true) (ha : a = 1 ∨ a = 7) :
  Calls Tryz.prog 88 #[capV a b c d e f g h, .int .i64 m] W fun r W' => r = .returned (.tuple #[zcap, .int .i64 8]) ∧ Below W.heap.size W W' := by
 have HX := hid hx
 have HM := hid hm
 clear hx hm
 rcases ha with rfl | rfl
 all_goals
  go_enter Tryz.func88, Tryz.ntmps88
  go_wp2_with (first
   | (go_at_call 110; refine (refMay13 _ _ _ _ _ _ _ _ _).mono ?_; rw [HX.out]; rintro r w1 ⟨rfl, hb1⟩; obtain ⟨hc1, hf1⟩ := bcell hb1; have hz1 : W.heap.size + 1 < w1.heap.size := (by have := hb1.size; simp at this; omega); have hz0 : W.heap.size < w1.heap.size := (by omega); have p2 : w1.cell? ⟨W.heap.size, 2, none⟩ = some (.int .i64 c) := ((hc1 _ _ (by simp; omega)).trans (by simp)); have p6 : w1.cell? ⟨W.heap.size, 6, none⟩ = some (.int .i64 g) := ((hc1 _ _ (by simp; omega)).trans (by simp)); have p7 : w1.cell? ⟨W.heap.size, 7, none⟩ = some (.int .i64 h) := ((hc1 _ _ (by simp; omega)).trans (by simp)))
   | (go_at_call 111; refine (refMay9 _ _).mono ?_; rw [HM.out]; rintro r w2 ⟨rfl, rfl⟩))
  all_goals
   exact bodyPost_ret (v := .tuple #[zcap, .int .i64 8]) (by simp [results, Tryz.results88, go_sem, hc1, hz1]) rfl ⟨rfl, (by repeat (first | with_reducible exact Below.refl _ _ | with_reducible assumption | with_reducible refine below_drewN ?_ _ | with_reducible refine Below.drew ?_ | with_reducible refine bal ?_ _ | with_reducible refine bgo ?_ (by with_reducible assumption) | refine Below.setCell ?_ (by first | exact Nat.le_refl _ | (simp; done) | (simp; omega)) _))⟩
theorem rcopy_rest (a b c d e f g h m : Int) (W : World) (hx : capB a b c d e f g h = true) (hm : mayB m = true) (ha : a = 2 ∨ a = 4 ∨ a = 5 ∨ a = 6 ∨ a = 9) :
  Calls Tryz.prog 88 #[capV a b c d e f g h, .int .i64 m] W fun r W' => r = .returned (.tuple #[capV a b c d e f g h, .int .i64 0]) ∧ Below W.heap.size W W' := by
 have HX := hid hx
 have HM := hid hm
 clear hx hm
 rcases ha with rfl | rfl | rfl | rfl | rfl
 all_goals
  go_enter Tryz.func88, Tryz.ntmps88
  go_wp2_with (first
   | (go_at_call 110; refine (refMay13 _ _ _ _ _ _ _ _ _).mono ?_; rw [HX.out]; rintro r w1 ⟨rfl, hb1⟩; obtain ⟨hc1, hf1⟩ := bcell hb1; have hz1 : W.heap.size + 1 < w1.heap.size := (by have := hb1.size; simp at this; omega); have hz0 : W.heap.size < w1.heap.size := (by omega); have p2 : w1.cell? ⟨W.heap.size, 2, none⟩ = some (.int .i64 c) := ((hc1 _ _ (by simp; omega)).trans (by simp)); have p6 : w1.cell? ⟨W.heap.size, 6, none⟩ = some (.int .i64 g) := ((hc1 _ _ (by simp; omega)).trans (by simp)); have p7 : w1.cell? ⟨W.heap.size, 7, none⟩ = some (.int .i64 h) := ((hc1 _ _ (by simp; omega)).trans (by simp)))
   | (go_at_call 111; refine (refMay9 _ _).mono ?_; rw [HM.out]; rintro r w2 ⟨rfl, rfl⟩))
  all_goals
   exact bodyPost_ret (v := .tuple #[capV _ b c d e f g h, .int .i64 0]) (by simp [results, Tryz.results88, go_sem, hc1, hz1]) rfl ⟨rfl, (by repeat (first | with_reducible exact Below.refl _ _ | with_reducible assumption | with_reducible refine below_drewN ?_ _ | with_reducible refine Below.drew ?_ | with_reducible refine bal ?_ _ | with_reducible refine bgo ?_ (by with_reducible assumption) | refine Below.setCell ?_ (by first | exact Nat.le_refl _ | (simp; done) | (simp; omega)) _))⟩
theorem rcopy_k3n (a b c d e f g h m : Int) (W : World) (hx : capB a b c d e f g h = true) (hm : mayB m = true) (ha : a = 3) (hn : maskN c m = 0) :
  Calls Tryz.prog 88 #[capV a b c d e f g h, .int .i64 m] W fun r W' => r = .returned (.tuple #[zcap, .int .i64 9]) ∧ Below W.heap.size W W' := by
 obtain ⟨c0, c1⟩ := cap_c hx (.inl ha)
 obtain ⟨m0, m1⟩ := mayB_of hm
 have HX := hid hx
 have HM := hid hm
 clear hx hm
 subst ha
 have HN := hid hn
 clear hn
 all_goals
  go_enter Tryz.func88, Tryz.ntmps88
  go_wp2_with (first
   | (go_at_call 110; refine (refMay13 _ _ _ _ _ _ _ _ _).mono ?_; rw [HX.out]; rintro r w1 ⟨rfl, hb1⟩; obtain ⟨hc1, hf1⟩ := bcell hb1; have hz1 : W.heap.size + 1 < w1.heap.size := (by have := hb1.size; simp at this; omega); have hz0 : W.heap.size < w1.heap.size := (by omega); have p2 : w1.cell? ⟨W.heap.size, 2, none⟩ = some (.int .i64 c) := ((hc1 _ _ (by simp; omega)).trans (by simp)); have p6 : w1.cell? ⟨W.heap.size, 6, none⟩ = some (.int .i64 g) := ((hc1 _ _ (by simp; omega)).trans (by simp)); have p7 : w1.cell? ⟨W.heap.size, 7, none⟩ = some (.int .i64 h) := ((hc1 _ _ (by simp; omega)).trans (by simp)))
   | (go_at_call 111; refine (refMay9 _ _).mono ?_; rw [HM.out]; rintro r w2 ⟨rfl, rfl⟩)
   | (go_at_call 112; refine (mask9 _ _ _ c0 c1 m0 m1).mono ?_; rw [HN.out]; rintro r w3 ⟨rfl, rfl⟩))
  all_goals
   exact bodyPost_ret (v := .tuple #[zcap, .int .i64 9]) (by simp [results, Tryz.results88, go_sem, hc1, hz1]) rfl ⟨rfl, (by repeat (first | with_reducible exact Below.refl _ _ | with_reducible assumption | with_reducible refine below_drewN ?_ _ | with_reducible refine Below.drew ?_ | with_reducible refine bal ?_ _ | with_reducible refine bgo ?_ (by with_reducible assumption) | refine Below.setCell ?_ (by first | exact Nat.le_refl _ | (simp; done) | (simp; omega)) _))⟩
theorem rcopy_k3y (a b c d e f g h m : Int) (W : World) (hx : capB a b c d e f g h = true) (hm : mayB m = true) (ha : a = 3) (hn : maskN c m ≠ 0) :
  Calls Tryz.prog 88 #[capV a b c d e f g h, .int .i64 m] W fun r W' => r = .returned (.tuple #[capV a b (maskN c m) d e f 0 0, .int .i64 0]) ∧ Below W.heap.size W W' := by
 obtain ⟨c0, c1⟩ := cap_c hx (.inl ha)
 obtain ⟨m0, m1⟩ := mayB_of hm
 have HX := hid hx
 have HM := hid hm
 clear hx hm
 subst ha
 have hk := mask_bd c0 c1 m0 m1
 generalize hq : maskN c m = q at *
 have HN := hid hq
 clear hq
 have hn' : (q == 0) = false := beq_eq_false_iff_ne.2 hn
 clear hn
 all_goals
  go_enter Tryz.func88, Tryz.ntmps88
  go_wp2_with (first
   | (go_at_call 110; refine (refMay13 _ _ _ _ _ _ _ _ _).mono ?_; rw [HX.out]; rintro r w1 ⟨rfl, hb1⟩; obtain ⟨hc1, hf1⟩ := bcell hb1; have hz1 : W.heap.size + 1 < w1.heap.size := (by have := hb1.size; simp at this; omega); have hz0 : W.heap.size < w1.heap.size := (by omega); have p2 : w1.cell? ⟨W.heap.size, 2, none⟩ = some (.int .i64 c) := ((hc1 _ _ (by simp; omega)).trans (by simp)); have p6 : w1.cell? ⟨W.heap.size, 6, none⟩ = some (.int .i64 g) := ((hc1 _ _ (by simp; omega)).trans (by simp)); have p7 : w1.cell? ⟨W.heap.size, 7, none⟩ = some (.int .i64 h) := ((hc1 _ _ (by simp; omega)).trans (by simp)))
   | (go_at_call 111; refine (refMay9 _ _).mono ?_; rw [HM.out]; rintro r w2 ⟨rfl, rfl⟩)
   | (go_at_call 112; refine (mask9 _ _ _ c0 c1 m0 m1).mono ?_; rw [HN.out]; rintro r w3 ⟨rfl, rfl⟩))
  all_goals
   exact bodyPost_ret (v := .tuple #[capV _ b q d e f 0 0, .int .i64 0]) (by simp [results, Tryz.results88, go_sem, hc1, hz1]) rfl ⟨rfl, (by repeat (first | with_reducible exact Below.refl _ _ | with_reducible assumption | with_reducible refine below_drewN ?_ _ | with_reducible refine Below.drew ?_ | with_reducible refine bal ?_ _ | with_reducible refine bgo ?_ (by with_reducible assumption) | refine Below.setCell ?_ (by first | exact Nat.le_refl _ | (simp; done) | (simp; omega)) _))⟩
theorem rcopy_k8 (a b c d e f g h m : Int) (W : World) (hx : capB a b c d e f g h = true) (hm : mayB m = true) (ha : a = 8) :
  Calls Tryz.prog 88 #[capV a b c d e f g h, .int .i64 m] W fun r W' => r = .returned (.tuple #[capV a b (maskN c m) d e f g h, .int .i64 0]) ∧ Below W.heap.size W W' := by
 obtain ⟨c0, c1⟩ := cap_c hx (.inr ha)
 obtain ⟨m0, m1⟩ := mayB_of hm
 have HX := hid hx
 have HM := hid hm
 clear hx hm
 subst ha
 generalize hq : maskN c m = q at *
 have HN := hid hq
 clear hq
 all_goals
  go_enter Tryz.func88, Tryz.ntmps88
  go_wp2_with (first
   | (go_at_call 110; refine (refMay13 _ _ _ _ _ _ _ _ _).mono ?_; rw [HX.out]; rintro r w1 ⟨rfl, hb1⟩; obtain ⟨hc1, hf1⟩ := bcell hb1; have hz1 : W.heap.size + 1 < w1.heap.size := (by have := hb1.size; simp at this; omega); have hz0 : W.heap.size < w1.heap.size := (by omega); have p2 : w1.cell? ⟨W.heap.size, 2, none⟩ = some (.int .i64 c) := ((hc1 _ _ (by simp; omega)).trans (by simp)); have p6 : w1.cell? ⟨W.heap.size, 6, none⟩ = some (.int .i64 g) := ((hc1 _ _ (by simp; omega)).trans (by simp)); have p7 : w1.cell? ⟨W.heap.size, 7, none⟩ = some (.int .i64 h) := ((hc1 _ _ (by simp; omega)).trans (by simp)))
   | (go_at_call 111; refine (refMay9 _ _).mono ?_; rw [HM.out]; rintro r w2 ⟨rfl, rfl⟩)
   | (go_at_call 112; refine (mask9 _ _ _ c0 c1 m0 m1).mono ?_; rw [HN.out]; rintro r w3 ⟨rfl, rfl⟩))
  all_goals
   exact bodyPost_ret (v := .tuple #[capV _ b q d e f g h, .int .i64 0]) (by simp [results, Tryz.results88, go_sem, hc1, hz1]) rfl ⟨rfl, (by repeat (first | with_reducible exact Below.refl _ _ | with_reducible assumption | with_reducible refine below_drewN ?_ _ | with_reducible refine Below.drew ?_ | with_reducible refine bal ?_ _ | with_reducible refine bgo ?_ (by with_reducible assumption) | refine Below.setCell ?_ (by first | exact Nat.le_refl _ | (simp; done) | (simp; omega)) _))⟩
def CapX.B (x : CapX) : Bool := capB x.a x.b x.c x.d x.e x.f x.g x.h
abbrev zX : CapX := ⟨0, 0, 0, 0, 0, 0, 0, 0⟩
def copyX (x : CapX) (m : Int) : CapX × Int :=
 if x.B = false ∨ mayB m = false then (zX, 2)
 else if x.a = 0 then (zX, 10)
 else if x.a = 1 ∨ x.a = 7 then (zX, 8)
 else if x.a = 3 then (if maskN x.c m = 0 then (zX, 9) else (⟨x.a, x.b, maskN x.c m, x.d, x.e, x.f, 0, 0⟩, 0))
 else if x.a = 8 then (⟨x.a, x.b, maskN x.c m, x.d, x.e, x.f, x.g, x.h⟩, 0)
 else (x, 0)
abbrev Gives (F : Nat) (args : Array Value) (r : Value) : Prop := ∀ w : World, TabG w → Calls Tryz.prog F args w fun e w' => e = .returned r ∧ Below w.heap.size w w'
theorem capB_kind {a b c d e f g h : Int} (hx : capB a b c d e f g h = true) : a = 0 ∨ a = 7 ∨ a = 1 ∨ a = 3 ∨ a = 8 ∨ a = 2 ∨ a = 4 ∨ a = 5 ∨ a = 6 ∨ a = 9 := by
 unfold capB at hx
 split at hx
 ·omega
 ·split at hx
  ·omega
  ·split at hx
   ·omega
   ·split at hx
    ·omega
    ·split at hx
     ·omega
     ·simp at hx
theorem copyD (x : CapX) (m : Int) (he : x.e ≤ 9223372036854775807) : Gives 63 #[x.val, .int .i64 m] (.tuple #[(copyX x m).1.val, .int .i64 (copyX x m).2]) := by
 intro W hT
 obtain ⟨a, b, c, d, e, f, g, h⟩ := x
 cases hx : capB a b c d e f g h with
 | false =>
  rw [show copyX ⟨a, b, c, d, e, f, g, h⟩ m = (zX, 2) by simp [copyX, CapX.B, hx]]
  exact copy_bad1 a b c d e f g h m W hT he hx
 | true =>
  cases hm : mayB m with
  | false =>
   rw [show copyX ⟨a, b, c, d, e, f, g, h⟩ m = (zX, 2) by simp [copyX, CapX.B, hm]]
   exact copy_bad2 a b c d e f g h m W hT he hx hm
  | true =>
   rcases capB_kind hx with ha | ha | ha | ha | ha | ha
   ·rw [show copyX ⟨a, b, c, d, e, f, g, h⟩ m = (zX, 10) by subst ha; simp [copyX, CapX.B, hx, hm]]
    exact copy_k0 a b c d e f g h m W hT he hx hm ha
   ·rw [show copyX ⟨a, b, c, d, e, f, g, h⟩ m = (zX, 8) by subst ha; simp [copyX, CapX.B, hx, hm]]
    exact copy_k1 a b c d e f g h m W hT he hx hm (.inr ha)
   ·rw [show copyX ⟨a, b, c, d, e, f, g, h⟩ m = (zX, 8) by subst ha; simp [copyX, CapX.B, hx, hm]]
    exact copy_k1 a b c d e f g h m W hT he hx hm (.inl ha)
   ·by_cases hn : maskN c m = 0
    ·rw [show copyX ⟨a, b, c, d, e, f, g, h⟩ m = (zX, 9) by subst ha; simp [copyX, CapX.B, hx, hm, hn]]
     exact copy_k3n a b c d e f g h m W hT he hx hm ha hn
    ·rw [show copyX ⟨a, b, c, d, e, f, g, h⟩ m = (⟨a, b, maskN c m, d, e, f, 0, 0⟩, 0) by subst ha; simp [copyX, CapX.B, hx, hm, hn]]
     exact copy_k3y a b c d e f g h m W hT he hx hm ha hn
   ·rw [show copyX ⟨a, b, c, d, e, f, g, h⟩ m = (⟨a, b, maskN c m, d, e, f, g, h⟩, 0) by subst ha; simp [copyX, CapX.B, hx, hm]]
    exact copy_k8 a b c d e f g h m W hT he hx hm ha
   ·rw [show copyX ⟨a, b, c, d, e, f, g, h⟩ m = (⟨a, b, c, d, e, f, g, h⟩, 0) by
     have h0 : ¬ a = 0 := by omega
     have h1 : ¬ (a = 1 ∨ a = 7) := by omega
     have h3 : ¬ a = 3 := by omega
     have h8 : ¬ a = 8 := by omega
     simp only [copyX, CapX.B, hx, hm, Bool.true_eq_false, or_self, if_neg h0, if_neg h1, if_neg h3, if_neg h8, if_false]]
    exact copy_rest a b c d e f g h m W hT he hx hm ha
theorem copyR14 (x : CapX) (m : Int) (W : World) : Calls Tryz.prog 88 #[x.val, .int .i64 m] W fun r W' => r = .returned (.tuple #[(copyX x m).1.val, .int .i64 (copyX x m).2]) ∧ Below W.heap.size W W' := by
 obtain ⟨a, b, c, d, e, f, g, h⟩ := x
 cases hx : capB a b c d e f g h with
 | false =>
  rw [show copyX ⟨a, b, c, d, e, f, g, h⟩ m = (zX, 2) by simp [copyX, CapX.B, hx]]
  exact rcopy_bad1 a b c d e f g h m W hx
 | true =>
  cases hm : mayB m with
  | false =>
   rw [show copyX ⟨a, b, c, d, e, f, g, h⟩ m = (zX, 2) by simp [copyX, CapX.B, hm]]
   exact rcopy_bad2 a b c d e f g h m W hx hm
  | true =>
   rcases capB_kind hx with ha | ha | ha | ha | ha | ha
   ·rw [show copyX ⟨a, b, c, d, e, f, g, h⟩ m = (zX, 10) by subst ha; simp [copyX, CapX.B, hx, hm]]
    exact rcopy_k0 a b c d e f g h m W hx hm ha
   ·rw [show copyX ⟨a, b, c, d, e, f, g, h⟩ m = (zX, 8) by subst ha; simp [copyX, CapX.B, hx, hm]]
    exact rcopy_k1 a b c d e f g h m W hx hm (.inr ha)
   ·rw [show copyX ⟨a, b, c, d, e, f, g, h⟩ m = (zX, 8) by subst ha; simp [copyX, CapX.B, hx, hm]]
    exact rcopy_k1 a b c d e f g h m W hx hm (.inl ha)
   ·by_cases hn : maskN c m = 0
    ·rw [show copyX ⟨a, b, c, d, e, f, g, h⟩ m = (zX, 9) by subst ha; simp [copyX, CapX.B, hx, hm, hn]]
     exact rcopy_k3n a b c d e f g h m W hx hm ha hn
    ·rw [show copyX ⟨a, b, c, d, e, f, g, h⟩ m = (⟨a, b, maskN c m, d, e, f, 0, 0⟩, 0) by subst ha; simp [copyX, CapX.B, hx, hm, hn]]
     exact rcopy_k3y a b c d e f g h m W hx hm ha hn
   ·rw [show copyX ⟨a, b, c, d, e, f, g, h⟩ m = (⟨a, b, maskN c m, d, e, f, g, h⟩, 0) by subst ha; simp [copyX, CapX.B, hx, hm]]
    exact rcopy_k8 a b c d e f g h m W hx hm ha
   ·rw [show copyX ⟨a, b, c, d, e, f, g, h⟩ m = (⟨a, b, c, d, e, f, g, h⟩, 0) by
     have h0 : ¬ a = 0 := by omega
     have h1 : ¬ (a = 1 ∨ a = 7) := by omega
     have h3 : ¬ a = 3 := by omega
     have h8 : ¬ a = 8 := by omega
     simp only [copyX, CapX.B, hx, hm, Bool.true_eq_false, or_self, if_neg h0, if_neg h1, if_neg h3, if_neg h8, if_false]]
    exact rcopy_rest a b c d e f g h m W hx hm ha
theorem copyX_ways (x : CapX) (m : Int) : (copyX x m).1 = zX ∧ (0 < (copyX x m).2 ∧ (copyX x m).2 ≤ 10) ∨ ((copyX x m).2 = 0 ∧ x.B = true ∧ mayB m = true ∧
  (x.a = 3 ∧ maskN x.c m ≠ 0 ∧ (copyX x m).1 = ⟨x.a, x.b, maskN x.c m, x.d, x.e, x.f, 0, 0⟩ ∨ x.a = 8 ∧ (copyX x m).1 = ⟨x.a, x.b, maskN x.c m, x.d, x.e, x.f, x.g, x.h⟩ ∨
   (x.a = 2 ∨ x.a = 4 ∨ x.a = 5 ∨ x.a = 6 ∨ x.a = 9) ∧ (copyX x m).1 = x)) := by
 obtain ⟨a, b, c, d, e, f, g, h⟩ := x
 unfold copyX
 split
 ·exact .inl ⟨rfl, by decide⟩
 ·rename_i hh
  simp only [not_or, Bool.not_eq_false] at hh
  split
  ·exact .inl ⟨rfl, by decide⟩
  ·split
   ·exact .inl ⟨rfl, by decide⟩
   ·split
    ·split
     ·exact .inl ⟨rfl, by decide⟩
     ·exact .inr ⟨rfl, hh.1, hh.2, .inl ⟨by assumption, by assumption, rfl⟩⟩
    ·split
     ·exact .inr ⟨rfl, hh.1, hh.2, .inr (.inl ⟨by assumption, rfl⟩)⟩
     ·exact .inr ⟨rfl, hh.1, hh.2, .inr (.inr ⟨by have := capB_kind hh.1; simp only at *; omega, rfl⟩)⟩
theorem copy_bd {x : CapX} {m : Int} {y : CapX} {k : Int} (h : copyX x m = (y, k)) : 0 ≤ k ∧ k ≤ 100 := by
 have := copyX_ways x m
 rw [h] at this
 rcases this with ⟨_, h1, h2⟩ | ⟨h1, _⟩
 ·exact ⟨Int.le_of_lt h1, by omega⟩
 ·simp only at h1; omega
instance : DecidableEq CapX := fun x y => decidable_of_iff (x.a = y.a ∧ x.b = y.b ∧ x.c = y.c ∧ x.d = y.d ∧ x.e = y.e ∧ x.f = y.f ∧ x.g = y.g ∧ x.h = y.h) (by cases x; cases y; simp)
end CX
end
end Go.Proofs.YtchjfeafkmpmbaaGreatDoor
