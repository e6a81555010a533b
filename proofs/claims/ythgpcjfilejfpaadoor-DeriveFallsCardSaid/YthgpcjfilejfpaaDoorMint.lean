/- derive.badged and derive.guarded. -/
import Derived.Test.YthgpcjfilejfpaaDoorCopy
import Derived.Test.YthgpcjfilejfpaaDoorWordW
import Derived.Test.YthgpcjfilejfpaaDoorCapAt
namespace Go.Proofs.YthgpcjfilejfpaaDoor
set_option linter.unusedVariables false
set_option linter.unusedSimpArgs false
open Go.ChangeShapes Go.WideShapes Go.ChangeAt Go.RowKit

set_option maxRecDepth 100000 in
set_option maxHeartbeats 1000000 in
theorem badged_hi (a b c d e f g h n : Int) (W : World) (hn : 16777215 < n) : Calls Tryd.prog 45 #[capV a b c d e f g h, .int .u64 n] W fun r W' => r = .returned (.tuple #[zcap, .int .i64 3]) ∧ Below W.heap.size W W' := by
  go_enter Tryd.func45, Tryd.ntmps45
  go_wp2
  exact bodyPost_ret (v := .tuple #[zcap, .int .i64 3]) (by simp [results, Tryd.results45, go_sem]) rfl ⟨rfl, bal (bal (Below.refl _ _) _) _⟩
set_option maxRecDepth 100000 in
set_option maxHeartbeats 1000000 in
theorem badged_had (a b c d e f g h n : Int) (W : World) (hn : n ≤ 16777215) (hd : d ≠ 0) : Calls Tryd.prog 45 #[capV a b c d e f g h, .int .u64 n] W fun r W' => r = .returned (.tuple #[zcap, .int .i64 9]) ∧ Below W.heap.size W W' := by
  have hd' : (d == 0) = false := beq_eq_false_iff_ne.2 hd
  have hd'' : (d != 0) = true := bne_iff_ne.2 hd
  go_enter Tryd.func45, Tryd.ntmps45
  go_wp2
  exact bodyPost_ret (v := .tuple #[zcap, .int .i64 9]) (by simp [results, Tryd.results45, go_sem]) rfl ⟨rfl, bal (bal (Below.refl _ _) _) _⟩
set_option maxRecDepth 100000 in
set_option maxHeartbeats 1000000 in
theorem badged_yes (a b c e f g h n : Int) (W : World) (hn : n ≤ 16777215) : Calls Tryd.prog 45 #[capV a b c 0 e f g h, .int .u64 n] W fun r W' => r = .returned (.tuple #[capV a b c n e f g h, .int .i64 0]) ∧ Below W.heap.size W W' := by
  go_enter Tryd.func45, Tryd.ntmps45
  go_wp2
  exact bodyPost_ret (v := .tuple #[capV a b c n e f g h, .int .i64 0]) (by simp [results, Tryd.results45, go_sem]) rfl ⟨rfl, bal (bal (Below.refl _ _) _) _⟩
set_option maxRecDepth 100000 in
set_option maxHeartbeats 1000000 in
theorem guarded_hi (a b c d e f g h : Int) (n : Nat) (W : World) (hT : TabG W) (hn : n < 2 ^ 64) (hf : fitsB n 16 = false) : Calls Tryd.prog 46 #[capV a b c d e f g h, .int .u64 n] W fun r W' => r = .returned (.tuple #[zcap, .int .i64 3]) ∧ Below W.heap.size W W' := by
  go_enter Tryd.func46, Tryd.ntmps46
  go_wp2_with (first | (go_at_call 48; refine (fits_any n 16 _ hn (hT.call (bal (bal (Below.refl _ _) _) _)).1 (hT.call (bal (bal (Below.refl _ _) _) _)).2).mono ?_; rw [hf]; rintro x w1 ⟨rfl, hb1⟩; obtain ⟨hc1, hf1⟩ := bcell hb1; have hz1 : W.heap.size + 1 < w1.heap.size := (by have := hb1.size; simp at this; omega)))
  exact bodyPost_ret (v := .tuple #[zcap, .int .i64 3]) (by simp [results, Tryd.results46, go_sem, hc1]) rfl ⟨rfl, (by repeat (first | with_reducible exact Below.refl _ _ | with_reducible assumption | with_reducible refine bal ?_ _ | with_reducible refine bgo ?_ (by with_reducible assumption) | refine Below.setCell ?_ (by first | exact Nat.le_refl _ | (simp; done) | (simp; omega)) _))⟩
set_option maxRecDepth 100000 in
set_option maxHeartbeats 1000000 in
theorem guarded_no (a b c d e f g h : Int) (n : Nat) (W : World) (hT : TabG W) (hn : n < 65536) (hf : fitsB n 16 = true) (hk : capB a b c d (n % 4096) (n / 4096) g h = false) : Calls Tryd.prog 46 #[capV a b c d e f g h, .int .u64 n] W fun r W' => r = .returned (.tuple #[zcap, .int .i64 3]) ∧ Below W.heap.size W W' := by
  have hn' : n < 2 ^ 64 := by omega
  have h12 : Wd.onesN 12 = 4095 := by decide
  have hb := Wd.and_ones n 12 (by omega) (by decide) (by decide)
  rw [h12] at hb
  have HK := Lib.hid hk
  clear hk
  have u1 : ((n : Int) % 4096) ≤ 9223372036854775807 := by omega
  have q0 := ((capAt_new W 24 a b c d e f g h).alloc (by simp) (.cells #[.int .i64 0, .int .i64 0, .int .i64 0, .int .u64 0, .int .i64 0, .int .i64 0, .int .i64 0, .int .i64 0] 24))
  have Q0 := Lib.hid q0
  clear q0
  go_enter Tryd.func46, Tryd.ntmps46
  go_wp2_with (first
    | (go_at_call 48; refine (fits_any n 16 _ hn' (hT.call (bal (bal (Below.refl _ _) _) _)).1 (hT.call (bal (bal (Below.refl _ _) _) _)).2).mono ?_; rw [hf]; rintro x w1 ⟨rfl, hb1⟩; have hz1 : W.heap.size + 1 < w1.heap.size := (by have := hb1.size; simp at this; omega); have hz0 : W.heap.size < w1.heap.size := (by omega); obtain ⟨q0, q1, q2, q3, q4, q5, q6, q7⟩ := Q0.out.call (by simp; omega) hb1; obtain ⟨hc1, hf1⟩ := bcell hb1)
    | (go_at_call 50; refine (Wd.ones_any 12 _).mono ?_; rw [h12]; rintro x w2 ⟨rfl, rfl⟩)
    | (go_at_call 15; refine (capMay _ _ _ _ _ _ _ _ _ (by exact hT.call (by repeat (first | with_reducible exact Below.refl _ _ | with_reducible assumption | with_reducible refine bal ?_ _ | with_reducible refine bgo ?_ (by with_reducible assumption) | refine Below.setCell ?_ (by first | exact Nat.le_refl _ | (simp; done) | (simp; omega)) _))) u1).mono ?_; rw [HK.out]; rintro x w3 ⟨rfl, hb3⟩; obtain ⟨hc3, hf3⟩ := bcell hb3; have hy := hb3.size; simp at hy; have hz30 : W.heap.size < w3.heap.size := (by omega); have hz31 : W.heap.size + 1 < w3.heap.size := (by omega); clear hy))
  all_goals exact bodyPost_ret (v := .tuple #[zcap, .int .i64 3]) (by simp [results, Tryd.results46, go_sem, hc1, hc3, hz0, hz1, hz30, hz31]) rfl ⟨rfl, (by repeat (first | with_reducible exact Below.refl _ _ | with_reducible assumption | with_reducible refine bal ?_ _ | with_reducible refine bgo ?_ (by with_reducible assumption) | refine Below.setCell ?_ (by first | exact Nat.le_refl _ | (simp; done) | (simp; omega)) _))⟩
set_option maxRecDepth 100000 in
set_option maxHeartbeats 1000000 in
theorem guarded_yes (a b c d e f g h : Int) (n : Nat) (W : World) (hT : TabG W) (hn : n < 65536) (hf : fitsB n 16 = true) (hk : capB a b c d (n % 4096) (n / 4096) g h = true) : Calls Tryd.prog 46 #[capV a b c d e f g h, .int .u64 n] W fun r W' => r = .returned (.tuple #[capV a b c d (n % 4096) (n / 4096) g h, .int .i64 0]) ∧ Below W.heap.size W W' := by
  have hn' : n < 2 ^ 64 := by omega
  have h12 : Wd.onesN 12 = 4095 := by decide
  have hb := Wd.and_ones n 12 (by omega) (by decide) (by decide)
  rw [h12] at hb
  have HK := Lib.hid hk
  clear hk
  have u1 : ((n : Int) % 4096) ≤ 9223372036854775807 := by omega
  have q0 := ((capAt_new W 24 a b c d e f g h).alloc (by simp) (.cells #[.int .i64 0, .int .i64 0, .int .i64 0, .int .u64 0, .int .i64 0, .int .i64 0, .int .i64 0, .int .i64 0] 24))
  have Q0 := Lib.hid q0
  clear q0
  go_enter Tryd.func46, Tryd.ntmps46
  go_wp2_with (first
    | (go_at_call 48; refine (fits_any n 16 _ hn' (hT.call (bal (bal (Below.refl _ _) _) _)).1 (hT.call (bal (bal (Below.refl _ _) _) _)).2).mono ?_; rw [hf]; rintro x w1 ⟨rfl, hb1⟩; have hz1 : W.heap.size + 1 < w1.heap.size := (by have := hb1.size; simp at this; omega); have hz0 : W.heap.size < w1.heap.size := (by omega); obtain ⟨q0, q1, q2, q3, q4, q5, q6, q7⟩ := Q0.out.call (by simp; omega) hb1; obtain ⟨hc1, hf1⟩ := bcell hb1)
    | (go_at_call 50; refine (Wd.ones_any 12 _).mono ?_; rw [h12]; rintro x w2 ⟨rfl, rfl⟩)
    | (go_at_call 15; refine (capMay _ _ _ _ _ _ _ _ _ (by exact hT.call (by repeat (first | with_reducible exact Below.refl _ _ | with_reducible assumption | with_reducible refine bal ?_ _ | with_reducible refine bgo ?_ (by with_reducible assumption) | refine Below.setCell ?_ (by first | exact Nat.le_refl _ | (simp; done) | (simp; omega)) _))) u1).mono ?_; rw [HK.out]; rintro x w3 ⟨rfl, hb3⟩; obtain ⟨hc3, hf3⟩ := bcell hb3; have hy := hb3.size; simp at hy; have hz30 : W.heap.size < w3.heap.size := (by omega); have hz31 : W.heap.size + 1 < w3.heap.size := (by omega); clear hy))
  all_goals exact bodyPost_ret (v := .tuple #[capV a b c d (n % 4096) (n / 4096) g h, .int .i64 0]) (by simp [results, Tryd.results46, go_sem, hc1, hc3, hz0, hz1, hz30, hz31]) rfl ⟨rfl, (by repeat (first | with_reducible exact Below.refl _ _ | with_reducible assumption | with_reducible refine bal ?_ _ | with_reducible refine bgo ?_ (by with_reducible assumption) | refine Below.setCell ?_ (by first | exact Nat.le_refl _ | (simp; done) | (simp; omega)) _))⟩
end Go.Proofs.YthgpcjfilejfpaaDoor
