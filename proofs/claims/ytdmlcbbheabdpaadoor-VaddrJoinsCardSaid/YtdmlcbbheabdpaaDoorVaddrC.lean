/- The walks of the laws VaddrJoins and VaddrBack. -/
import Derived.Test.YtdmlcbbheabdpaaDoorVaddrB
import Derived.Test.YtdmlcbbheabdpaaDoorStructs
import Derived.Lib.Hide
namespace Go.Proofs.YtdmlcbbheabdpaaDoor
set_option linter.unusedVariables false
open Go.ChangeShapes Go.WideShapes Go.ChangeAt Go.RowKit
attribute [local go_sem] setCell_drewN alloc_drewN

theorem join_both (x : PartsX) (hx : x.Ok) : ∃ (r c : Int), (0 ≤ c ∧ c ≤ 100) ∧
    (∀ w : World, TabAt w → 0 < w.heap.size → Calls Tryd.prog 18 #[x.val] w fun e w' => e = .returned (.tuple #[.int .u64 r, .int .i64 c]) ∧ Below w.heap.size w w') ∧
    (∀ w : World, Calls Tryd.prog 19 #[x.val] w fun e w' => e = .returned (.tuple #[.int .u64 r, .int .i64 c]) ∧ Below w.heap.size w w') := by
  obtain ⟨A, B, C, O⟩ := x
  obtain ⟨⟨-, a2⟩, ⟨-, b2⟩, ⟨-, c2⟩, ⟨-, o2⟩⟩ := hx
  cases h : partsB A B C O with
  | true =>
    obtain ⟨⟨a0, a1⟩, ⟨b0, b1⟩, ⟨c0, c1⟩, o0, o1⟩ := of_decide_eq_true h
    exact ⟨_, 0, by decide, fun w hT hg => join_yes A B C O w hT hg a0 a1 b0 b1 c0 c1 o0 o1, fun w => joinR_yes A B C O w a0 a1 b0 b1 c0 c1 o0 o1⟩
  | false => exact ⟨0, 3, by decide, fun w hT hg => join_no A B C O w hT hg a2 b2 c2 o2 h, fun w => joinR_no A B C O w h⟩
theorem base_both (p : Int) : ∃ (r c : Int), (0 ≤ c ∧ c ≤ 100) ∧ (∀ w : World, Calls Tryd.prog 20 #[.int .i64 p] w fun e w' => e = .returned (.tuple #[.int .u64 r, .int .i64 c]) ∧ w = w') ∧
    (∀ w : World, Calls Tryd.prog 21 #[.int .i64 p] w fun e w' => e = .returned (.tuple #[.int .u64 r, .int .i64 c]) ∧ w = w') := by
  by_cases h : 0 ≤ p ∧ p < 512
  · exact ⟨_, 0, by decide, fun w => base_yes p w h.1 h.2, fun w => baseR_yes p w h.1 h.2⟩
  · exact ⟨0, 3, by decide, fun w => base_no p w (by omega), fun w => baseR_no p w (by omega)⟩
theorem index_both (p l : Int) : ∃ r : Int, (∀ w : World, Calls Tryd.prog 22 #[.int .i64 p, .int .i64 l] w fun e w' => e = .returned (.int .i64 r) ∧ ∃ k, w' = w.drewN k) ∧
    (∀ w : World, Calls Tryd.prog 23 #[.int .i64 p, .int .i64 l] w fun e w' => e = .returned (.int .i64 r) ∧ w = w') := by
  by_cases h : p < 0 ∨ 512 ≤ p ∨ l < 1 ∨ 3 < l
  · exact ⟨-1, fun w => index_no p l w h, fun w => indexR_no p l w h⟩
  · exact ⟨_, fun w => index_yes p l w (by omega) (by omega) (by omega) (by omega), fun w => indexR_yes p l w (by omega) (by omega) (by omega) (by omega)⟩

set_option maxHeartbeats 1000000 in
theorem walk_vaddrJoins (a0 : PartsX) (w0 : a0.Ok) (a1 : Int) (w1 : (Lit.int .i64 a1).wf = true) (a2 : Int) (w2 : (Lit.int .i64 a2).wf = true) (W : World) (hL : LaidV_laid_math_bits_deBruijn64tab W) :
    Calls Tryd.prog 7 #[a0.val, .int .i64 a1, .int .i64 a2] W fun e w' => e = .returned (.bool true) ∧ Below W.heap.size W w' := by
  obtain ⟨hT, hg⟩ := hL
  obtain ⟨r1, k1, ⟨k10, k11⟩, j1, j2⟩ := join_both a0 w0
  obtain ⟨r2, k2, ⟨k20, k21⟩, b1, b2⟩ := base_both a1
  obtain ⟨r3, i1, i2⟩ := index_both a1 a2
  have J1 := Lib.hid j1; have J2 := Lib.hid j2; have B1 := Lib.hid b1; have B2 := Lib.hid b2; have I1 := Lib.hid i1; have I2 := Lib.hid i2
  clear j1 j2 b1 b2 i1 i2 w0 w1 w2
  go_enter Tryd.func7, Tryd.ntmps7
  go_wp2_with (first
    | (go_at_call 18; refine (J1.out _ (by exact hT.below hg (bal (Below.refl _ _) _)) (by simp)).mono ?_; rintro e w1 ⟨rfl, hb1⟩; obtain ⟨hc1, hf1⟩ := bcell hb1; have hz1 : W.heap.size < w1.heap.size := (by have := hb1.size; simp at this; omega))
    | (go_at_call 19; refine (J2.out _).mono ?_; rintro e w2 ⟨rfl, hb2⟩)
    | (go_at_call 20; refine (B1.out _).mono ?_; rintro e w3 ⟨rfl, rfl⟩)
    | (go_at_call 21; refine (B2.out _).mono ?_; rintro e w4 ⟨rfl, rfl⟩)
    | (go_at_call 22; refine (I1.out _).mono ?_; rintro e w5 ⟨rfl, k, rfl⟩)
    | (go_at_call 23; refine (I2.out _).mono ?_; rintro e w6 ⟨rfl, rfl⟩)
    | (go_at_call 11; refine (num_any _ _ (by omega) (by omega)).mono ?_; rintro e w7 ⟨rfl, rfl⟩)
    | (go_at_call 24; refine (awake4_any _).mono ?_; rintro e w8 ⟨rfl, hb8⟩))
  go_ret
  exact ⟨rfl, by repeat (first | exact Below.refl _ _ | assumption | refine below_drewN ?_ _ | refine bal ?_ _ | refine bgo ?_ (by assumption))⟩

set_option maxHeartbeats 2000000 in
theorem walk_vaddrBack (a0 : Int) (w0 : (Lit.int .u64 a0).wf = true) (a1 : Int) (w1 : (Lit.int .i64 a1).wf = true) (W : World) (hL : LaidV_laid_math_bits_deBruijn64tab W) :
    Calls Tryd.prog 8 #[.int .u64 a0, .int .i64 a1] W fun e w' => e = .returned (.bool true) ∧ Below W.heap.size W w' := by
  obtain ⟨hT, hg⟩ := hL
  have b0 := bd_u64 w0
  clear w0 w1
  obtain ⟨p, hp⟩ : ∃ p, lowN a1 512 = p := ⟨_, rfl⟩
  have hlow : ∀ w : World, Calls Tryd.prog 17 #[.int .i64 a1, .int .i64 512] w fun e w' => e = .returned (.int .i64 p) ∧ w = w' := fun w => hp ▸ low_any a1 512 w (by decide) (by decide)
  obtain ⟨p0, p1⟩ := lowN_bd a1 512 (by decide)
  rw [hp] at p0 p1
  have HL := Lib.hid hlow
  clear hp hlow
  obtain ⟨x, hx⟩ : ∃ x, a0 % 32768 = x := ⟨_, rfl⟩
  have x0 : 0 ≤ x := by omega
  have x1 : x < 32768 := by omega
  obtain ⟨A, hA⟩ : ∃ A, x / 4096 = A := ⟨_, rfl⟩
  obtain ⟨B, hB⟩ : ∃ B, x / 512 % 8 = B := ⟨_, rfl⟩
  obtain ⟨C, hC⟩ : ∃ C, x / 64 % 8 = C := ⟨_, rfl⟩
  obtain ⟨O, hO⟩ : ∃ O, x % 64 = O := ⟨_, rfl⟩
  have hs : ∀ w : World, Calls Tryd.prog 25 #[.int .u64 x] w fun e w' => e = .returned (.tuple #[partsV A B C O, .int .i64 0]) ∧ Below w.heap.size w w' := fun w => by
    have := split_yes x w x0 x1
    rw [hA, hB, hC, hO] at this
    exact this
  have hj : ∀ w : World, TabAt w → 0 < w.heap.size → Calls Tryd.prog 18 #[partsV A B C O] w fun e w' => e = .returned (.tuple #[.int .u64 x, .int .i64 0]) ∧ Below w.heap.size w w' := fun w hT hg => by
    have := join_yes A B C O w hT hg (by omega) (by omega) (by omega) (by omega) (by omega) (by omega) (by omega) (by omega)
    rw [show A * 4096 + B * 512 + C * 64 + O = x by omega] at this
    exact this
  obtain ⟨k, hk⟩ : ∃ k, x / 64 = k := ⟨_, rfl⟩
  have k0 : 0 ≤ k := by omega
  have k1 : k < 512 := by omega
  have k2 : k * 64 ≤ x := by omega
  have k3 : x - k * 64 < 64 := by omega
  have f3 : (x - k * 64 == O) = true := by rw [beq_iff_eq]; omega
  have o0 : 0 ≤ O := by omega
  have o1 : O < 64 := by omega
  have hpg : ∀ w : World, Calls Tryd.prog 26 #[.int .u64 x] w fun e w' => e = .returned (.tuple #[.int .i64 k, .int .i64 0]) ∧ ∃ n, w' = w.drewN n := fun w => by
    have := page_yes x w x0 x1
    rw [hk] at this
    exact this
  have hpb : ∀ w : World, Calls Tryd.prog 26 #[.int .u64 (p * 64)] w fun e w' => e = .returned (.tuple #[.int .i64 p, .int .i64 0]) ∧ ∃ n, w' = w.drewN n := fun w => by
    have := page_yes (p * 64) w (by omega) (by omega)
    rw [show p * 64 / 64 = p by omega] at this
    exact this
  have S1 := Lib.hid hs; have J1 := Lib.hid hj; have P1 := Lib.hid hpg; have P2 := Lib.hid hpb
  clear hs hj hpg hpb hA hB hC hO hk
  go_enter Tryd.func8, Tryd.ntmps8
  go_wp2_with (first
    | (go_at_call 17; refine (HL.out _).mono ?_; rintro e w1 ⟨rfl, rfl⟩)
    | (go_at_call 25; refine (S1.out _).mono ?_; rintro e w1 ⟨rfl, hb1⟩; have hT1 := hT.below hg hb1; have hg1 := Nat.lt_of_lt_of_le hg hb1.size)
    | (go_at_call 18; refine (J1.out _ (by exact hT1.below hg1 (bal (Below.refl _ _) _)) (by simp)).mono ?_; rintro e w2 ⟨rfl, hb2⟩; obtain ⟨hc2, hf2⟩ := bcell hb2; have hz2 : w1.heap.size < w2.heap.size := (by have := hb2.size; simp at this; omega))
    | (go_at_call 20; (with_reducible refine (base_yes p _ p0 p1).mono ?_); rintro e w3 ⟨rfl, rfl⟩)
    | (go_at_call 20; (with_reducible refine (base_yes k _ k0 k1).mono ?_); rintro e w3 ⟨rfl, rfl⟩)
    | (go_at_call 26; (with_reducible refine (P2.out _).mono ?_); rintro e w5 ⟨rfl, n, rfl⟩)
    | (go_at_call 26; (with_reducible refine (P1.out _).mono ?_); rintro e w5 ⟨rfl, n, rfl⟩)
    | (go_at_call 24; refine (awake4_any _).mono ?_; rintro e w8 ⟨rfl, hb8⟩))
  go_ret
  exact ⟨rfl, by repeat (first | exact Below.refl _ _ | assumption | refine below_drewN ?_ _ | refine bal ?_ _ | refine bgo ?_ (by assumption))⟩
end Go.Proofs.YtdmlcbbheabdpaaDoor
