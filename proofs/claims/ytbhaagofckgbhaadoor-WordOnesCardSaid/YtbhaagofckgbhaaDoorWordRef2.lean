/- Chapter 1's own answer: Number, Fits, With, Field. -/
import Derived.Test.YtbhaagofckgbhaaDoorWordRef
namespace Go.Proofs.YtbhaagofckgbhaaDoor
set_option linter.unusedVariables false
open Go.ChangeShapes Go.WideShapes Go.ChangeAt Go.RowKit

theorem number_step (V a j m : Nat) : V / 2 ^ (a + j) % 2 ^ (m + 1) = V / 2 ^ (a + (j + 1)) % 2 ^ m * 2 + V / 2 ^ (a + j) % 2 := by
  rw [show a + (j + 1) = (a + j) + 1 by omega, Nat.pow_succ 2 (a + j), ← Nat.div_div_eq_div_mul, Nat.pow_succ, Nat.mul_comm (2 ^ m) 2, Nat.mod_mul]
  omega
theorem bit_mod' (w i : Nat) : w / 2 ^ i % 2 = (if w.testBit i then 1 else 0) := by
  rw [Nat.testBit_eq_decide_div_mod_eq]
  rcases Nat.mod_two_eq_zero_or_one (w / 2 ^ i) with h | h <;> rw [h] <;> rfl
theorem refNumber_any (V a n : Nat) (W : World) (h : a + n ≤ 64) : Calls Tryd.prog 21 #[.agg (bitsA V 64), .int .i64 a, .int .i64 n] W fun e w' => e = .returned (.int .u64 (V / 2 ^ a % 2 ^ n : Nat)) ∧ Below W.heap.size W w' := by
  go_enter Tryd.func21, Tryd.ntmps21
  go_wp2
  go_loop [7, 8] (fun v i => ∃ k : Nat, k ≤ n ∧ i = .int .i64 ((k : Int) - 1) ∧ v = .int .u64 (V / 2 ^ (a + k) % 2 ^ (n - k) : Nat)) (fun _ i => (intOf i + 1).toNat)
  case atStart => exact ⟨n, Nat.le_refl _, rfl, by simp [Nat.mod_one]⟩
  case round =>
    obtain ⟨k, hk, rfl, rfl⟩ := hrel
    cases k with
    | zero =>
      go_wp2
      go_ret
      exact ⟨rfl, bal (Below.refl _ _) _⟩
    | succ j =>
      rw [show ((j + 1 : Nat) : Int) - 1 = j by omega]
      have hB : (W.alloc (.cells (bitsA V 64) 41)).heap[W.heap.size]? = some (.cells (bitsA V 64) 41 (0, 0)) := World.alloc_heap_new W _
      have hc : (W.alloc (.cells (bitsA V 64) 41)).cell? ⟨W.heap.size, a + j, none⟩ = some (.int .i64 (V / 2 ^ (a + j) % 2 : Nat)) := by
        rw [(cellB hB (a + j)).1, bitsA_get V 64 (a + j) (by omega), if_pos (by omega)]
      clear hB
      go_wp2
      go_round
      case rel =>
        refine ⟨j, by omega, rfl, ?_⟩
        obtain ⟨m, hm⟩ : ∃ m, n - (j + 1) = m := ⟨_, rfl⟩
        have e1 : n - j = m + 1 := by omega
        have hs := number_step V a j m
        have hl : V / 2 ^ (a + j) % 2 ^ (m + 1) < 2 ^ (m + 1) := Nat.mod_lt _ (Nat.two_pow_pos _)
        have hp : (2 : Nat) ^ (m + 1) ≤ 2 ^ 64 := Nat.pow_le_pow_right (by decide) (by omega)
        rw [hm, e1]
        have c1 : ((V : Int) / 2 ^ (a + (j + 1)) % 2 ^ m) = ((V / 2 ^ (a + (j + 1)) % 2 ^ m : Nat) : Int) := by simp
        have c2 : ((V : Int) / 2 ^ (a + j) % 2) = ((V / 2 ^ (a + j) % 2 : Nat) : Int) := by simp
        rw [c1, c2, hs]
        rw [hs] at hl
        clear hs c1 c2 hc
        congr 1
        rw [IntKind.wrap_u64, IntKind.wrap_u64]
        generalize V / 2 ^ (a + (j + 1)) % 2 ^ m = x at *
        generalize V / 2 ^ (a + j) % 2 = y at *
        omega
      case measure => simp [intOf]

set_option maxHeartbeats 1000000 in
theorem refFits_any (v : Nat) (n : Int) (W : World) (hv : v < 2 ^ 64) : Calls Tryd.prog 17 #[.int .u64 v, .int .i64 n] W fun e w' => e = .returned (.bool (fitsB v n)) ∧ Below W.heap.size W w' := by
  go_enter Tryd.func17, Tryd.ntmps17
  go_wp2_with (first
    | (go_at_call 22; refine (refBits_any v _ hv).mono ?_; rintro e w1 ⟨rfl, hb1⟩)
    | (refine wpList_store_row rfl 41 (.tmp 5) _ rfl w1.heap.size (bitsA v 64) rfl rfl _ _ (World.alloc_heap_new w1 _) (by rw [bitsA_size]; kernel_rfl) (by rw [bitsA_size]; rfl) (bitsA_one v 64) ?_))
  rw [← bitsA_zero v]
  obtain ⟨wx, hwx⟩ : ∃ wx, (w1.alloc (.cells (bitsA v 0) 41)).setRow w1.heap.size (bitsA v 64) = wx := ⟨_, rfl⟩
  have hX : wx.heap[w1.heap.size]? = some (.cells (bitsA v 64) 41 (0, 0)) := hwx ▸ setRow_heap _ _ _ _ _ _ (World.alloc_heap_new w1 _)
  have hbx : Below W.heap.size W wx := hwx ▸ belowRow (bal hb1 _) hb1.size _
  rw [hwx]
  clear hwx hb1
  go_loop [6] (fun i => ∃ k : Nat, k ≤ 64 ∧ i = .int .i64 k ∧ ∀ j, j < k → v.testBit j = true → (j : Int) < n) (fun i => 64 - (intOf i).toNat)
  case atStart => exact ⟨0, by omega, rfl, fun j hj => by omega⟩
  case round =>
    obtain ⟨k, hk, rfl, hA⟩ := hrel
    by_cases hlt : k < 64
    · have hb := bit_mod' v k
      have hc : wx.cell? ⟨w1.heap.size, k, none⟩ = some (.int .i64 ((if v.testBit k then 1 else 0 : Nat) : Int)) := by
        rw [(cellB hX k).1, bitsA_get v 64 k hlt, if_pos (by omega), hb]
      cases ht : v.testBit k
      · rw [ht] at hc
        have hc : wx.cell? ⟨w1.heap.size, k, none⟩ = some (.int .i64 0) := hc
        have HT := Lib.hid ht; clear hb ht hX
        go_wp2
        go_round
        case rel => exact ⟨k + 1, by omega, by go_num, fun j hj h => by
          by_cases e : j = k
          · subst e; rw [HT.out] at h; cases h
          · exact hA j (by omega) h⟩
        case measure => simp [intOf]; omega
      · rw [ht] at hc
        have hc : wx.cell? ⟨w1.heap.size, k, none⟩ = some (.int .i64 1) := hc
        have HT := Lib.hid ht; clear hb ht hX
        by_cases hn : n ≤ (k : Int)
        · go_wp2
          go_ret
          refine ⟨ret_bool ?_, hbx⟩
          unfold fitsB
          refine (decide_eq_false fun h => ?_).symm
          have := bits_of_lt_pow h HT.out
          omega
        · go_wp2
          go_round
          case rel => exact ⟨k + 1, by omega, by go_num, fun j hj h => by
            by_cases e : j = k
            · subst e; omega
            · exact hA j (by omega) h⟩
          case measure => simp [intOf]; omega
    · obtain rfl : k = 64 := by omega
      clear hX
      go_wp2
      go_ret
      refine ⟨ret_bool ?_, hbx⟩
      unfold fitsB
      refine (decide_eq_true (lt_pow_of_bits fun i hi => ?_)).symm
      have h64 := bits_of_lt_pow hv hi
      have := hA i h64 hi
      omega

/-- What 'wrong' tells. -/
theorem refWrong_any (a n : Int) (w : World) (ha : -9223372036854775808 ≤ a) (ha' : a ≤ 9223372036854775807) : Calls Tryd.prog 20 #[.int .i64 a, .int .i64 n] w fun e w' => e = .returned (.bool (!insideB a n)) ∧ w = w' := by
  go_enter Tryd.func20, Tryd.ntmps20
  go_wp2
  all_goals go_ret
  all_goals refine ⟨ret_bool ?_, rfl⟩
  all_goals
    rw [Bool.eq_iff_iff]
    simp [insideB]
    omega
theorem refField_no (v a n : Int) (w : World) (ha : -9223372036854775808 ≤ a) (ha' : a ≤ 9223372036854775807) (h : insideB a n = false) :
    Calls Tryd.prog 9 #[.int .u64 v, .int .i64 a, .int .i64 n] w fun e w' => e = .returned (.tuple #[.int .u64 0, .int .i64 2]) ∧ Below w.heap.size w w' := by
  go_enter Tryd.func9, Tryd.ntmps9
  go_wp2_with (go_at_call 20; refine (refWrong_any _ _ _ ha ha').mono ?_; rw [h]; rintro e w' ⟨rfl, rfl⟩)
  go_ret2
  exact ⟨rfl, (by repeat (first | exact Below.refl _ _ | assumption | refine below_drewN ?_ _ | refine Below.setCell ?_ (by first | exact Nat.le_refl _ | (simp; done) | (simp; omega)) _ | refine bal ?_ _ | refine bgo ?_ (by assumption)))⟩
theorem refField_yes (v a n : Nat) (W : World) (hv : v < 2 ^ 64) (h : insideB a n = true) :
    Calls Tryd.prog 9 #[.int .u64 v, .int .i64 a, .int .i64 n] W fun e w' => e = .returned (.tuple #[.int .u64 (v / 2 ^ a % 2 ^ n : Nat), .int .i64 0]) ∧ Below W.heap.size W w' := by
  obtain ⟨h1, h2, h3, h4⟩ := insideB_true h
  go_enter Tryd.func9, Tryd.ntmps9
  go_wp2_with (first
    | (go_at_call 20; refine (refWrong_any _ _ _ (by omega) (by omega)).mono ?_; rw [h]; rintro e w' ⟨rfl, rfl⟩)
    | (go_at_call 22; refine (refBits_any v _ hv).mono ?_; rintro e w1 ⟨rfl, hb1⟩)
    | (go_at_call 21; refine (refNumber_any v a n _ (by omega)).mono ?_; rintro e w2 ⟨rfl, hb2⟩))
  go_ret2
  exact ⟨rfl, (by repeat (first | exact Below.refl _ _ | assumption | refine below_drewN ?_ _ | refine Below.setCell ?_ (by first | exact Nat.le_refl _ | (simp; done) | (simp; omega)) _ | refine bal ?_ _ | refine bgo ?_ (by assumption)))⟩
end Go.Proofs.YtbhaagofckgbhaaDoor
