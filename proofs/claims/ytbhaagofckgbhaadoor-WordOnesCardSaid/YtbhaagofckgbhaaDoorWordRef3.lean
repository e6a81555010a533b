/- Chapter 1's own answer: With; the walks of WordFields, WordPuts, WordOnes. -/
import Derived.Test.YtbhaagofckgbhaaDoorWordRef2
namespace Go.Proofs.YtbhaagofckgbhaaDoor
set_option linter.unusedVariables false
open Go.ChangeShapes Go.WideShapes Go.ChangeAt Go.RowKit

theorem mix_zero (w a v : Nat) (hw : w < 2 ^ 64) (ha : a ≤ 64) : withN w a 0 (v % 2 ^ 0) = w := by
  apply Nat.eq_of_testBit_eq
  intro i
  rw [test_withN w a 0 _ i (by simpa using hw) (by omega) (Nat.mod_lt _ (by decide)), if_neg (by omega)]
theorem key (b1 b2 : Bool) (e : b1 = b2) : some (Value.int .i64 ((if b1 then 1 else 0 : Nat) : Int)) = some (Value.int .i64 ((if b2 then 1 else 0 : Nat) : Int)) := by rw [e]
theorem two_blk (w : World) (A B : Array Value) (t : TypeId) : ((w.alloc (.cells A t)).alloc (.cells B t)).heap[w.heap.size]? = some (.cells A t (0, 0)) ∧ ((w.alloc (.cells A t)).alloc (.cells B t)).heap[w.heap.size + 1]? = some (.cells B t (0, 0)) := by
  refine ⟨(Below.heap_alloc _ _ _ (by simp)).trans (World.alloc_heap_new w _), ?_⟩
  have := World.alloc_heap_new (w.alloc (.cells A t)) (.cells B t)
  rw [World.size_alloc] at this
  exact this
theorem mix_step (w a v n k : Nat) (hw : w < 2 ^ 64) (h : a + n ≤ 64) (hk : k < n) :
    (bitsA (withN w a k (v % 2 ^ k)) 64).setIfInBounds (a + k) (.int .i64 (v / 2 ^ k % 2 : Nat)) = bitsA (withN w a (k + 1) (v % 2 ^ (k + 1))) 64 := by
  have hw' : w < 18446744073709551616 := by simpa using hw
  apply Array.ext_getElem?
  intro j
  rw [Array.getElem?_setIfInBounds]
  by_cases hj : j < 64
  · rw [bitsA_get (withN w a (k + 1) (v % 2 ^ (k + 1))) 64 j hj, if_pos hj, bit_mod' (withN w a (k + 1) (v % 2 ^ (k + 1))), test_withN w a (k + 1) _ j hw' (by omega) (Nat.mod_lt _ (Nat.two_pow_pos _))]
    by_cases e : a + k = j
    · subst e
      rw [if_pos rfl, if_pos (by rw [bitsA_size]; exact hj), bit_mod' v k]
      refine key _ _ ?_
      rw [if_pos (show a ≤ a + k ∧ a + k < a + (k + 1) by omega), Nat.testBit_mod_two_pow, Nat.add_sub_cancel_left, decide_eq_true (Nat.lt_succ_self k), Bool.true_and]
    · rw [if_neg e, bitsA_get (withN w a k (v % 2 ^ k)) 64 j hj, if_pos hj, bit_mod' (withN w a k (v % 2 ^ k)), test_withN w a k _ j hw' (by omega) (Nat.mod_lt _ (Nat.two_pow_pos _))]
      refine key _ _ ?_
      by_cases c : a ≤ j ∧ j < a + k
      · rw [if_pos c, if_pos (show a ≤ j ∧ j < a + (k + 1) by omega), Nat.testBit_mod_two_pow, Nat.testBit_mod_two_pow, decide_eq_true (show j - a < k by omega), decide_eq_true (show j - a < k + 1 by omega)]
      · rw [if_neg c, if_neg (show ¬ (a ≤ j ∧ j < a + (k + 1)) by omega)]
  · rw [if_neg (by omega), Array.getElem?_eq_none (by rw [bitsA_size]; omega), Array.getElem?_eq_none (by rw [bitsA_size]; omega)]

theorem refWith_no (v a n x : Int) (w : World) (ha : -9223372036854775808 ≤ a) (ha' : a ≤ 9223372036854775807) (h : insideB a n = false) :
    Calls Tryd.prog 13 #[.int .u64 v, .int .i64 a, .int .i64 n, .int .u64 x] w fun e w' => e = .returned (.tuple #[.int .u64 0, .int .i64 2]) ∧ Below w.heap.size w w' := by
  go_enter Tryd.func13, Tryd.ntmps13
  go_wp2_with (go_at_call 20; refine (refWrong_any _ _ _ ha ha').mono ?_; rw [h]; rintro e w' ⟨rfl, rfl⟩)
  go_ret2
  exact ⟨rfl, (by repeat (first | exact Below.refl _ _ | assumption | refine below_drewN ?_ _ | refine Below.setCell ?_ (by first | exact Nat.le_refl _ | (simp; done) | (simp; omega)) _ | refine bal ?_ _ | refine bgo ?_ (by assumption)))⟩
theorem refWith_nofit (v a n : Int) (x : Nat) (w : World) (hx : x < 2 ^ 64) (h : insideB a n = true) (hf : fitsB x n = false) :
    Calls Tryd.prog 13 #[.int .u64 v, .int .i64 a, .int .i64 n, .int .u64 x] w fun e w' => e = .returned (.tuple #[.int .u64 0, .int .i64 3]) ∧ Below w.heap.size w w' := by
  obtain ⟨h1, h2, h3, h4⟩ := insideB_true h
  go_enter Tryd.func13, Tryd.ntmps13
  go_wp2_with (first
    | (go_at_call 20; refine (refWrong_any _ _ _ (by omega) (by omega)).mono ?_; rw [h]; rintro e w' ⟨rfl, rfl⟩)
    | (go_at_call 17; refine (refFits_any x n _ hx).mono ?_; rw [hf]; rintro e w1 ⟨rfl, hb1⟩))
  go_ret2
  exact ⟨rfl, (by repeat (first | exact Below.refl _ _ | assumption | refine below_drewN ?_ _ | refine Below.setCell ?_ (by first | exact Nat.le_refl _ | (simp; done) | (simp; omega)) _ | refine bal ?_ _ | refine bgo ?_ (by assumption)))⟩
set_option maxHeartbeats 2000000 in
theorem refWith_yes (v a n x : Nat) (W : World) (hv : v < 2 ^ 64) (hx : x < 2 ^ 64) (h : insideB a n = true) (hf : fitsB x n = true) :
    Calls Tryd.prog 13 #[.int .u64 v, .int .i64 a, .int .i64 n, .int .u64 x] W fun e w' => e = .returned (.tuple #[.int .u64 (withN v a n x : Nat), .int .i64 0]) ∧ Below W.heap.size W w' := by
  obtain ⟨h1, h2, h3, h4⟩ := insideB_true h
  go_enter Tryd.func13, Tryd.ntmps13
  go_wp2_with (first
    | (go_at_call 20; refine (refWrong_any _ _ _ (by omega) (by omega)).mono ?_; rw [h]; rintro e w' ⟨rfl, rfl⟩)
    | (go_at_call 17; refine (refFits_any x n _ hx).mono ?_; rw [hf]; rintro e w1 ⟨rfl, hb1⟩)
    | (go_at_call 22; (with_reducible refine (refBits_any v _ hv).mono ?_); rintro e w2 ⟨rfl, hb2⟩)
    | (go_at_call 22; refine (refBits_any x _ hx).mono ?_; rintro e w3 ⟨rfl, hb3⟩)
    | (refine wpList_store_row rfl 41 (.tmp 10) _ rfl w3.heap.size (bitsA v 64) rfl rfl _ _ (two_blk w3 _ _ _).1 (by rw [bitsA_size]; kernel_rfl) (by rw [bitsA_size]; rfl) (bitsA_one v 64) ?_)
    | (refine wpList_store_row rfl 41 (.tmp 11) _ rfl (w3.heap.size + 1) (bitsA x 64) rfl rfl _ _ ((setRow_other _ _ _ _ (by omega)).trans (two_blk w3 _ _ _).2) (by rw [bitsA_size]; kernel_rfl) (by rw [bitsA_size]; rfl) (bitsA_one x 64) ?_))
  have hsz : W.heap.size ≤ w3.heap.size := by
    have e1 := hb1.size; have e2 := hb2.size; have e3 := hb3.size
    first | omega | (simp at e1 e2 e3; omega)
  have hB3 : Below W.heap.size W w3 := (by repeat (first | exact Below.refl _ _ | assumption | refine below_drewN ?_ _ | refine Below.setCell ?_ (by first | exact Nat.le_refl _ | (simp; done) | (simp; omega)) _ | refine bal ?_ _ | refine bgo ?_ (by assumption)))
  have hN : ∀ w : World, Calls Tryd.prog 21 #[.agg (bitsA (withN v a n x) 64), .int .i64 0, .int .i64 64] w fun e w' => e = .returned (.int .u64 (withN v a n x : Nat)) ∧ Below w.heap.size w w' := fun w => by
    have hlt : withN v a n x < 2 ^ 64 := lt_pow_of_bits fun i hi => by
      rw [test_withN v a n x i (by simpa using hv) (by omega) (by unfold fitsB at hf; simpa using of_decide_eq_true hf)] at hi
      by_cases c : a ≤ i ∧ i < a + n
      · omega
      · rw [if_neg c] at hi; exact bits_of_lt_pow hv hi
    have := refNumber_any (withN v a n x) 0 64 w (by omega)
    rw [Nat.pow_zero, Nat.div_one, Nat.mod_eq_of_lt hlt] at this
    exact this
  have HN := Lib.hid hN
  rw [← bitsA_zero v]
  obtain ⟨wx, hwx⟩ : ∃ wx, (((w3.alloc (.cells (bitsA v 0) 41)).alloc (.cells (bitsA v 0) 41)).setRow w3.heap.size (bitsA v 64)).setRow (w3.heap.size + 1) (bitsA x 64) = wx := ⟨_, rfl⟩
  have hX1 : wx.heap[w3.heap.size]? = some (.cells (bitsA v 64) 41 (0, 0)) := hwx ▸ (setRow_other _ _ _ _ (by omega)).trans (setRow_heap _ _ _ _ _ _ (two_blk w3 _ _ _).1)
  have hX2 : wx.heap[w3.heap.size + 1]? = some (.cells (bitsA x 64) 41 (0, 0)) := hwx ▸ setRow_heap _ _ _ _ _ _ ((setRow_other _ _ _ _ (by omega)).trans (two_blk w3 _ _ _).2)
  have hbx : Below W.heap.size W wx := hwx ▸ belowRow (belowRow (bal (bal hB3 _) _) hsz _) (by omega) _
  rw [hwx]
  clear hwx hb1 hb2 hb3 hN
  go_loopw [12] (fun i wr => ∃ k : Nat, k ≤ n ∧ i = .int .i64 k ∧ wr.heap[w3.heap.size]? = some (.cells (bitsA (withN v a k (x % 2 ^ k)) 64) 41 (0, 0)) ∧ wr.heap[w3.heap.size + 1]? = some (.cells (bitsA x 64) 41 (0, 0)) ∧ Below W.heap.size W wr)
    (fun i _ => n - (intOf i).toNat)
  case atStart => exact ⟨0, by omega, rfl, by rw [mix_zero v a x hv (by omega)]; exact hX1, hX2, hbx⟩
  case round =>
    obtain ⟨k, hk, rfl, hB, hR, hb⟩ := hrel
    by_cases hlt : k < n
    · have c1 : wr.cell? ⟨w3.heap.size + 1, k, none⟩ = some (.int .i64 (x / 2 ^ k % 2 : Nat)) := by
        rw [(cellB hR k).1, bitsA_get x 64 k (by omega), if_pos (by omega)]
      have c2 : wr.cell? ⟨w3.heap.size, a + k, none⟩ = some (.int .i64 (withN v a k (x % 2 ^ k) / 2 ^ (a + k) % 2 : Nat)) := by
        rw [(cellB hB (a + k)).1, bitsA_get _ 64 (a + k) (by omega), if_pos (by omega)]
      have g2 : wr.frozen? ⟨w3.heap.size, a + k, none⟩ = false := (cellB hB (a + k)).2
      have HB := Lib.hid hB; have HR := Lib.hid hR; clear hB hR
      go_wp2
      go_roundw
      case rel =>
        have e : ((x : Int) / 2 ^ k % 2) = ((x / 2 ^ k % 2 : Nat) : Int) := by simp
        rw [e]
        exact ⟨k + 1, by omega, by go_num, (Go.heap_setCell_same _ _ _ _ _ _ HB.out).trans (by rw [mix_step v a x n k hv (by omega) hlt]), (Go.heap_setCell_other _ _ _ _ (by simp)).trans HR.out, hb.setCell hsz _⟩
      case measure => simp [intOf]; omega
    · obtain rfl : k = n := by omega
      rw [Nat.mod_eq_of_lt (show x < 2 ^ k by unfold fitsB at hf; simpa using of_decide_eq_true hf)] at hB
      have HB := Lib.hid hB; clear hB hR
      go_wp2_with (first
        | (refine wpList_load_row rfl 41 (.tmp 10) rfl w3.heap.size rfl _ _ _ _ HB.out Tryd.underlying41 rfl (by rw [bitsA_size]; kernel_rfl) ?_)
        | (go_at_call 21; refine (HN.out _).mono ?_; rintro e w4 ⟨rfl, hb4⟩))
      go_ret2
      exact ⟨rfl, (by repeat (first | exact Below.refl _ _ | assumption | refine below_drewN ?_ _ | refine Below.setCell ?_ (by first | exact Nat.le_refl _ | (simp; done) | (simp; omega)) _ | refine bal ?_ _ | refine bgo ?_ (by assumption)))⟩

def TabG (w : World) : Prop := TabAt w ∧ 0 < w.heap.size
theorem TabG.below {B : Nat} {w w' : World} (h : TabG w) (hB : 0 < B) (hb : Below B w w') : TabG w' := ⟨h.1.below hB hb, Nat.lt_of_lt_of_le h.2 hb.size⟩
theorem num_b (a : Int) (w : World) (h : 0 ≤ a ∧ a ≤ 100) : Calls Tryd.prog 10 #[.int .i64 a] w fun e w' => e = .returned (.int .i64 a) ∧ w = w' := by
  obtain ⟨h, h'⟩ := h
  go_enter Tryd.func10, Tryd.ntmps10
  go_wp2
  go_ret
  exact ⟨rfl, rfl⟩
theorem field_both (v a n : Int) (v0 : 0 ≤ v) (v1 : v ≤ 18446744073709551615) (ha : -9223372036854775808 ≤ a) (ha' : a ≤ 9223372036854775807) : ∃ r c : Int, (0 ≤ c ∧ c ≤ 100) ∧
    (∀ w : World, Calls Tryd.prog 8 #[.int .u64 v, .int .i64 a, .int .i64 n] w fun e w' => e = .returned (.tuple #[.int .u64 r, .int .i64 c]) ∧ Below w.heap.size w w') ∧
    (∀ w : World, Calls Tryd.prog 9 #[.int .u64 v, .int .i64 a, .int .i64 n] w fun e w' => e = .returned (.tuple #[.int .u64 r, .int .i64 c]) ∧ Below w.heap.size w w') := by
  cases h : insideB a n with
  | false =>
    exact ⟨0, 2, by decide, fun w => (field_no v a n w ha ha' h).mono fun e w' ⟨h1, h2⟩ => ⟨h1, by subst h2; exact Below.refl _ _⟩, fun w => refField_no v a n w ha ha' h⟩
  | true =>
    obtain ⟨h1, h2, h3, h4⟩ := insideB_true h
    obtain ⟨x, rfl⟩ := Int.eq_ofNat_of_zero_le v0
    obtain ⟨A, rfl⟩ := Int.eq_ofNat_of_zero_le h1
    obtain ⟨N, rfl⟩ := Int.eq_ofNat_of_zero_le (show 0 ≤ n by omega)
    refine ⟨_, 0, by decide, fun w => (field_yes x A N w ha ha' h v0 v1).mono fun e w' ⟨e1, k, e2⟩ => ⟨e1, by subst e2; exact below_drewN (Below.refl _ _) _⟩, fun w => ?_⟩
    have := refField_yes x A N w (by omega) h
    rw [show fieldN x A N = ((x / 2 ^ A % 2 ^ N : Nat) : Int) by simp [fieldN]]
    exact this
theorem with_both (v a n x : Int) (v0 : 0 ≤ v) (v1 : v ≤ 18446744073709551615) (x0 : 0 ≤ x) (x1 : x ≤ 18446744073709551615) (ha : -9223372036854775808 ≤ a) (ha' : a ≤ 9223372036854775807) : ∃ r c : Int, (0 ≤ c ∧ c ≤ 100) ∧
    (∀ w : World, TabG w → Calls Tryd.prog 12 #[.int .u64 v, .int .i64 a, .int .i64 n, .int .u64 x] w fun e w' => e = .returned (.tuple #[.int .u64 r, .int .i64 c]) ∧ Below w.heap.size w w') ∧
    (∀ w : World, Calls Tryd.prog 13 #[.int .u64 v, .int .i64 a, .int .i64 n, .int .u64 x] w fun e w' => e = .returned (.tuple #[.int .u64 r, .int .i64 c]) ∧ Below w.heap.size w w') := by
  obtain ⟨V, rfl⟩ := Int.eq_ofNat_of_zero_le v0
  obtain ⟨X, rfl⟩ := Int.eq_ofNat_of_zero_le x0
  cases h : insideB a n with
  | false =>
    exact ⟨0, 2, by decide, fun w _ => (with_no V a n X w ha ha' h).mono fun e w' ⟨h1, h2⟩ => ⟨h1, by subst h2; exact Below.refl _ _⟩, fun w => refWith_no V a n X w ha ha' h⟩
  | true =>
    cases hf : fitsB X n with
    | false => exact ⟨0, 3, by decide, fun w hT => with_nofit V a n X w ha ha' h hf (by omega) hT.1 hT.2, fun w => refWith_nofit V a n X w (by omega) h hf⟩
    | true =>
      obtain ⟨h1, h2, h3, h4⟩ := insideB_true h
      obtain ⟨A, rfl⟩ := Int.eq_ofNat_of_zero_le h1
      obtain ⟨N, rfl⟩ := Int.eq_ofNat_of_zero_le (show 0 ≤ n by omega)
      exact ⟨_, 0, by decide, fun w hT => with_yes V A N X w h hf (by omega) (by omega) hT.1 hT.2, fun w => refWith_yes V A N X w (by omega) (by omega) h hf⟩

set_option maxHeartbeats 1000000 in
theorem walk_wordOnes (a0 : Int) (w0 : (Lit.int .i64 a0).wf = true) (a1 : Int) (w1 : (Lit.int .u64 a1).wf = true) (W : World) (hL : LaidV_laid_math_bits_deBruijn64tab W) :
    Calls Tryd.prog 5 #[.int .i64 a0, .int .u64 a1] W fun e w' => e = .returned (.bool true) ∧ Below W.heap.size W w' := by
  have hT : TabG W := hL
  obtain ⟨b0, b1⟩ := bd_u64 w1
  obtain ⟨k, rfl⟩ := Int.eq_ofNat_of_zero_le b0
  have hk : k < 2 ^ 64 := by omega
  have f1 : ∀ w : World, TabG w → Calls Tryd.prog 16 #[.int .u64 k, .int .i64 a0] w fun e w' => e = .returned (.bool (fitsB k a0)) ∧ Below w.heap.size w w' := fun w h => fits_any k a0 w hk h.1 h.2
  have f2 : ∀ w : World, Calls Tryd.prog 17 #[.int .u64 k, .int .i64 a0] w fun e w' => e = .returned (.bool (fitsB k a0)) ∧ Below w.heap.size w w' := fun w => refFits_any k a0 w hk
  generalize fitsB k a0 = q at f1 f2
  have F1 := Lib.hid f1; have F2 := Lib.hid f2
  clear f1 f2 w0 w1
  go_enter Tryd.func5, Tryd.ntmps5
  go_wp2_with (first
    | (go_at_call 14; refine (ones_any _ _).mono ?_; rintro e w2 ⟨rfl, rfl⟩)
    | (go_at_call 15; refine (refOnes_any _ _).mono ?_; rintro e w3 ⟨rfl, rfl⟩)
    | (go_at_call 16; refine (F1.out _ ?_).mono ?_; rotate_right; rintro e w4 ⟨rfl, hb4⟩)
    | (go_at_call 17; refine (F2.out _).mono ?_; rintro e w5 ⟨rfl, hb5⟩)
    | (go_at_call 11; refine (awake_any _ (hT.below hT.2 (by repeat (first | exact Below.refl _ _ | assumption | refine below_drewN ?_ _ | refine Below.setCell ?_ (by first | exact Nat.le_refl _ | (simp; done) | (simp; omega)) _ | refine bal ?_ _ | refine bgo ?_ (by assumption)))).1 (hT.below hT.2 (by repeat (first | exact Below.refl _ _ | assumption | refine below_drewN ?_ _ | refine Below.setCell ?_ (by first | exact Nat.le_refl _ | (simp; done) | (simp; omega)) _ | refine bal ?_ _ | refine bgo ?_ (by assumption)))).2).mono ?_; rintro e w6 ⟨rfl, hb6⟩))
  all_goals first | exact hT.below hT.2 (by repeat (first | exact Below.refl _ _ | assumption | refine below_drewN ?_ _ | refine Below.setCell ?_ (by first | exact Nat.le_refl _ | (simp; done) | (simp; omega)) _ | refine bal ?_ _ | refine bgo ?_ (by assumption))) | (go_ret; exact ⟨rfl, (by repeat (first | exact Below.refl _ _ | assumption | refine below_drewN ?_ _ | refine Below.setCell ?_ (by first | exact Nat.le_refl _ | (simp; done) | (simp; omega)) _ | refine bal ?_ _ | refine bgo ?_ (by assumption)))⟩)
set_option maxHeartbeats 1000000 in
theorem walk_wordFields (a0 : Int) (w0 : (Lit.int .u64 a0).wf = true) (a1 : Int) (w1 : (Lit.int .i64 a1).wf = true) (a2 : Int) (w2 : (Lit.int .i64 a2).wf = true) (W : World) (hL : LaidV_laid_math_bits_deBruijn64tab W) :
    Calls Tryd.prog 3 #[.int .u64 a0, .int .i64 a1, .int .i64 a2] W fun e w' => e = .returned (.bool true) ∧ Below W.heap.size W w' := by
  have hT : TabG W := hL
  obtain ⟨b0, b1⟩ := bd_u64 w0
  obtain ⟨c0, c1⟩ := bd_i64 w1
  obtain ⟨r, c, hc, f1, f2⟩ := field_both a0 a1 a2 b0 b1 c0 c1
  have F1 := Lib.hid f1; have F2 := Lib.hid f2
  clear f1 f2 w0 w1 w2
  go_enter Tryd.func3, Tryd.ntmps3
  go_wp2_with (first
    | (go_at_call 8; refine (F1.out _).mono ?_; rintro e w4 ⟨rfl, hb4⟩)
    | (go_at_call 9; refine (F2.out _).mono ?_; rintro e w5 ⟨rfl, hb5⟩)
    | (go_at_call 10; refine (num_b _ _ hc).mono ?_; rintro e w7 ⟨rfl, rfl⟩)
    | (go_at_call 11; refine (awake_any _ (hT.below hT.2 (by repeat (first | exact Below.refl _ _ | assumption | refine below_drewN ?_ _ | refine Below.setCell ?_ (by first | exact Nat.le_refl _ | (simp; done) | (simp; omega)) _ | refine bal ?_ _ | refine bgo ?_ (by assumption)))).1 (hT.below hT.2 (by repeat (first | exact Below.refl _ _ | assumption | refine below_drewN ?_ _ | refine Below.setCell ?_ (by first | exact Nat.le_refl _ | (simp; done) | (simp; omega)) _ | refine bal ?_ _ | refine bgo ?_ (by assumption)))).2).mono ?_; rintro e w6 ⟨rfl, hb6⟩))
  all_goals first | exact hT.below hT.2 (by repeat (first | exact Below.refl _ _ | assumption | refine below_drewN ?_ _ | refine Below.setCell ?_ (by first | exact Nat.le_refl _ | (simp; done) | (simp; omega)) _ | refine bal ?_ _ | refine bgo ?_ (by assumption))) | (go_ret; exact ⟨rfl, (by repeat (first | exact Below.refl _ _ | assumption | refine below_drewN ?_ _ | refine Below.setCell ?_ (by first | exact Nat.le_refl _ | (simp; done) | (simp; omega)) _ | refine bal ?_ _ | refine bgo ?_ (by assumption)))⟩)
set_option maxHeartbeats 1000000 in
theorem walk_wordPuts (a0 : Int) (w0 : (Lit.int .u64 a0).wf = true) (a1 : Int) (w1 : (Lit.int .i64 a1).wf = true) (a2 : Int) (w2 : (Lit.int .i64 a2).wf = true) (a3 : Int) (w3 : (Lit.int .u64 a3).wf = true) (W : World) (hL : LaidV_laid_math_bits_deBruijn64tab W) :
    Calls Tryd.prog 4 #[.int .u64 a0, .int .i64 a1, .int .i64 a2, .int .u64 a3] W fun e w' => e = .returned (.bool true) ∧ Below W.heap.size W w' := by
  have hT : TabG W := hL
  obtain ⟨b0, b1⟩ := bd_u64 w0
  obtain ⟨c0, c1⟩ := bd_i64 w1
  obtain ⟨d0, d1⟩ := bd_u64 w3
  obtain ⟨r, c, hc, f1, f2⟩ := with_both a0 a1 a2 a3 b0 b1 d0 d1 c0 c1
  have F1 := Lib.hid f1; have F2 := Lib.hid f2
  clear f1 f2 w0 w1 w2 w3
  go_enter Tryd.func4, Tryd.ntmps4
  go_wp2_with (first
    | (go_at_call 12; refine (F1.out _ hT).mono ?_; rintro e w4 ⟨rfl, hb4⟩)
    | (go_at_call 13; refine (F2.out _).mono ?_; rintro e w5 ⟨rfl, hb5⟩)
    | (go_at_call 10; refine (num_b _ _ hc).mono ?_; rintro e w7 ⟨rfl, rfl⟩)
    | (go_at_call 11; refine (awake_any _ (hT.below hT.2 (by repeat (first | exact Below.refl _ _ | assumption | refine below_drewN ?_ _ | refine Below.setCell ?_ (by first | exact Nat.le_refl _ | (simp; done) | (simp; omega)) _ | refine bal ?_ _ | refine bgo ?_ (by assumption)))).1 (hT.below hT.2 (by repeat (first | exact Below.refl _ _ | assumption | refine below_drewN ?_ _ | refine Below.setCell ?_ (by first | exact Nat.le_refl _ | (simp; done) | (simp; omega)) _ | refine bal ?_ _ | refine bgo ?_ (by assumption)))).2).mono ?_; rintro e w6 ⟨rfl, hb6⟩))
  all_goals first | exact hT.below hT.2 (by repeat (first | exact Below.refl _ _ | assumption | refine below_drewN ?_ _ | refine Below.setCell ?_ (by first | exact Nat.le_refl _ | (simp; done) | (simp; omega)) _ | refine bal ?_ _ | refine bgo ?_ (by assumption))) | (go_ret; exact ⟨rfl, (by repeat (first | exact Below.refl _ _ | assumption | refine below_drewN ?_ _ | refine Below.setCell ?_ (by first | exact Nat.le_refl _ | (simp; done) | (simp; omega)) _ | refine bal ?_ _ | refine bgo ?_ (by assumption)))⟩)
end Go.Proofs.YtbhaagofckgbhaaDoor
