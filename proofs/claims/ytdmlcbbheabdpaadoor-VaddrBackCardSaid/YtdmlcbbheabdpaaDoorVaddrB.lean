/- Contracts of vaddr.Join and of chapter 4's own answers; the walks of the laws VaddrJoins and VaddrBack. -/
import Derived.Test.YtdmlcbbheabdpaaDoorVaddrA
import Derived.Test.YtdmlcbbheabdpaaDoorFits
import Derived.Test.YtdmlcbbheabdpaaDoorVars
import Derived.WalkSpells
namespace Go.Proofs.YtdmlcbbheabdpaaDoor
set_option linter.unusedVariables false
open Go.ChangeShapes Go.WideShapes Go.ChangeAt Go.RowKit
attribute [local go_sem] setCell_drewN alloc_drewN

def smallB (v n : Int) : Bool := decide (0 ≤ v ∧ v < 2 ^ n.toNat)
theorem smallB_mk {v n : Int} (h0 : 0 ≤ v) (h : v < 2 ^ n.toNat) : smallB v n = true := decide_eq_true ⟨h0, h⟩
theorem smallB_no {v n : Int} (h : v < 0 ∨ 2 ^ n.toNat ≤ v) : smallB v n = false := decide_eq_false (by omega)

theorem vfits_any (v n : Int) (w : World) (hv : v ≤ 9223372036854775807) (hT : TabAt w) (hg : 0 < w.heap.size) :
    Calls Tryd.prog 30 #[.int .i64 v, .int .i64 n] w fun e w' => e = .returned (.bool (smallB v n)) ∧ Below w.heap.size w w' := by
  by_cases h0 : 0 ≤ v
  · obtain ⟨x, rfl⟩ := Int.eq_ofNat_of_zero_le h0
    have e : smallB x n = fitsB x n := by
      unfold smallB fitsB
      rw [Bool.eq_iff_iff, decide_eq_true_iff, decide_eq_true_iff]
      constructor
      · intro ⟨_, h⟩; exact_mod_cast h
      · intro h; exact ⟨h0, by exact_mod_cast h⟩
    have H := Lib.hid e
    clear e
    go_enter Tryd.func30, Tryd.ntmps30
    go_wp2_with (go_at_call 35; refine (fits_any x n _ (by omega) hT hg).mono ?_; rintro e w1 ⟨rfl, hb⟩)
    go_ret
    exact ⟨by rw [H.out]; rfl, hb⟩
  · have e : smallB v n = false := smallB_no (by omega)
    go_enter Tryd.func30, Tryd.ntmps30
    go_wp2
    go_ret
    exact ⟨rfl, Below.refl _ _⟩

theorem or_join (i x y : Nat) (hx : x % 2 ^ i = 0) (hy : y < 2 ^ i) (h : x + y < 18446744073709551616) : bits BinOp.or IntKind.u64 (x : Int) (y : Int) = ((x + y : Nat) : Int) := by
  rw [u64_or_nat x y (by omega) (by omega), nat_join i x y hx hy]
theorem join_key (A B C O : Int) (a0 : 0 ≤ A) (a1 : A < 8) (b0 : 0 ≤ B) (b1 : B < 8) (c0 : 0 ≤ C) (c1 : C < 8) (o0 : 0 ≤ O) (o1 : O < 64) :
    bits BinOp.or IntKind.u64 (IntKind.u64.wrap (bits BinOp.or IntKind.u64 (IntKind.u64.wrap (bits BinOp.or IntKind.u64 (IntKind.u64.wrap (bits BinOp.or IntKind.u64 0 A * 8)) B * 8)) C * 64)) O = A * 4096 + B * 512 + C * 64 + O := by
  obtain ⟨a, rfl⟩ := Int.eq_ofNat_of_zero_le a0
  obtain ⟨b, rfl⟩ := Int.eq_ofNat_of_zero_le b0
  obtain ⟨c, rfl⟩ := Int.eq_ofNat_of_zero_le c0
  obtain ⟨o, rfl⟩ := Int.eq_ofNat_of_zero_le o0
  have k0 : bits BinOp.or IntKind.u64 (0 : Int) (a : Int) = ((0 + a : Nat) : Int) := or_join 3 0 a (by simp) (by omega) (by omega)
  have w1 : IntKind.u64.wrap (((0 + a : Nat) : Int) * 8) = ((a * 8 : Nat) : Int) := by rw [IntWalk.u64_in _ (by omega)]; omega
  have k1 : bits BinOp.or IntKind.u64 ((a * 8 : Nat) : Int) (b : Int) = ((a * 8 + b : Nat) : Int) := or_join 3 _ b (by omega) (by omega) (by omega)
  have w2 : IntKind.u64.wrap (((a * 8 + b : Nat) : Int) * 8) = ((a * 64 + b * 8 : Nat) : Int) := by rw [IntWalk.u64_in _ (by omega)]; omega
  have k2 : bits BinOp.or IntKind.u64 ((a * 64 + b * 8 : Nat) : Int) (c : Int) = ((a * 64 + b * 8 + c : Nat) : Int) := or_join 3 _ c (by omega) (by omega) (by omega)
  have w3 : IntKind.u64.wrap (((a * 64 + b * 8 + c : Nat) : Int) * 64) = ((a * 4096 + b * 512 + c * 64 : Nat) : Int) := by rw [IntWalk.u64_in _ (by omega)]; omega
  have k3 : bits BinOp.or IntKind.u64 ((a * 4096 + b * 512 + c * 64 : Nat) : Int) (o : Int) = ((a * 4096 + b * 512 + c * 64 + o : Nat) : Int) := or_join 6 _ o (by omega) (by omega) (by omega)
  rw [k0, w1, k1, w2, k2, w3, k3]
  omega

set_option maxHeartbeats 2000000 in
theorem join_yes (A B C O : Int) (w : World) (hT : TabAt w) (hg : 0 < w.heap.size) (a0 : 0 ≤ A) (a1 : A < 8) (b0 : 0 ≤ B) (b1 : B < 8) (c0 : 0 ≤ C) (c1 : C < 8) (o0 : 0 ≤ O) (o1 : O < 64) :
    Calls Tryd.prog 18 #[partsV A B C O] w fun e w' => e = .returned (.tuple #[.int .u64 (A * 4096 + B * 512 + C * 64 + O), .int .i64 0]) ∧ Below w.heap.size w w' := by
  have HK := Lib.hid (join_key A B C O a0 a1 b0 b1 c0 c1 o0 o1)
  have k1 : smallB A 3 = true := smallB_mk a0 (by simpa using a1)
  have k2 : smallB B 3 = true := smallB_mk b0 (by simpa using b1)
  have k3 : smallB C 3 = true := smallB_mk c0 (by simpa using c1)
  have k4 : smallB O 6 = true := smallB_mk o0 (by simpa using o1)
  go_enter Tryd.func18, Tryd.ntmps18
  go_wp2_with fail
  refine wp_loop_rounds 4 ?_
  rw [rounds_succ]
  go_wp2_with (go_at_call 30; go_must (refine (vfits_any A 3 _ (by omega) (by exact hT.below hg (bal (bal (Below.refl _ _) _) _)) (by simp)).mono ?_); rintro e w1 ⟨rfl, hb1⟩; obtain ⟨hc1, hf1⟩ := bcell hb1; have hz1 : w.heap.size + 1 < w1.heap.size := (by have := hb1.size; simp at this; omega); have hy1 : w.heap.size < w1.heap.size := by omega)
  have hB1 := bgo (bal (bal (Below.refl _ _) _) _) hb1
  have hT1 := hT.below hg hB1
  rw [rounds_succ]
  go_wp2_with (go_at_call 30; go_must (refine (vfits_any B 3 _ (by omega) hT1 (by omega)).mono ?_); rintro e w2 ⟨rfl, hb2⟩; obtain ⟨hc2, hf2⟩ := bcell hb2; have hz2 : w.heap.size + 1 < w2.heap.size := (by have := hb2.size; omega); have hy2 : w.heap.size < w2.heap.size := by omega)
  have hT2 := hT1.below (by omega) hb2
  rw [rounds_succ]
  go_wp2_with (go_at_call 30; go_must (refine (vfits_any C 3 _ (by omega) hT2 (by omega)).mono ?_); rintro e w3 ⟨rfl, hb3⟩; obtain ⟨hc3, hf3⟩ := bcell hb3; have hz3 : w.heap.size + 1 < w3.heap.size := (by have := hb3.size; omega); have hy3 : w.heap.size < w3.heap.size := by omega)
  have hT3 := hT2.below (by omega) hb3
  rw [rounds_succ]
  go_wp2_with (go_at_call 30; go_must (refine (vfits_any O 6 _ (by omega) hT3 (by omega)).mono ?_); rintro e w4 ⟨rfl, hb4⟩; obtain ⟨hc4, hf4⟩ := bcell hb4; have hz4 : w.heap.size + 1 < w4.heap.size := (by have := hb4.size; omega); have hy4 : w.heap.size < w4.heap.size := by omega)
  go_ret2
  exact ⟨by rw [← HK.out]; rfl, bgo (bgo (bgo hB1 hb2) hb3) hb4⟩

set_option maxHeartbeats 2000000 in
theorem join_noA (A B C O : Int) (w : World) (hT : TabAt w) (hg : 0 < w.heap.size) (a2 : A ≤ 9223372036854775807) (b2 : B ≤ 9223372036854775807) (c2 : C ≤ 9223372036854775807) (o2 : O ≤ 9223372036854775807) (k1 : smallB A 3 = false) :
    Calls Tryd.prog 18 #[partsV A B C O] w fun e w' => e = .returned (.tuple #[.int .u64 0, .int .i64 3]) ∧ Below w.heap.size w w' := by
  go_enter Tryd.func18, Tryd.ntmps18
  go_wp2_with fail
  refine wp_loop_rounds 4 ?_
  rw [rounds_succ]
  go_wp2_with (go_at_call 30; go_must (refine (vfits_any A 3 _ (by omega) (by exact hT.below hg (bal (bal (Below.refl _ _) _) _)) (by simp)).mono ?_); rintro e w1 ⟨rfl, hb1⟩; obtain ⟨hc1, hf1⟩ := bcell hb1; have hz1 : w.heap.size + 1 < w1.heap.size := (by have := hb1.size; simp at this; omega); have hy1 : w.heap.size < w1.heap.size := by omega)
  go_ret2
  exact ⟨rfl, bgo (bal (bal (Below.refl _ _) _) _) hb1⟩

set_option maxHeartbeats 2000000 in
theorem join_noB (A B C O : Int) (w : World) (hT : TabAt w) (hg : 0 < w.heap.size) (a2 : A ≤ 9223372036854775807) (b2 : B ≤ 9223372036854775807) (c2 : C ≤ 9223372036854775807) (o2 : O ≤ 9223372036854775807) (k1 : smallB A 3 = true) (k2 : smallB B 3 = false) :
    Calls Tryd.prog 18 #[partsV A B C O] w fun e w' => e = .returned (.tuple #[.int .u64 0, .int .i64 3]) ∧ Below w.heap.size w w' := by
  go_enter Tryd.func18, Tryd.ntmps18
  go_wp2_with fail
  refine wp_loop_rounds 4 ?_
  rw [rounds_succ]
  go_wp2_with (go_at_call 30; go_must (refine (vfits_any A 3 _ (by omega) (by exact hT.below hg (bal (bal (Below.refl _ _) _) _)) (by simp)).mono ?_); rintro e w1 ⟨rfl, hb1⟩; obtain ⟨hc1, hf1⟩ := bcell hb1; have hz1 : w.heap.size + 1 < w1.heap.size := (by have := hb1.size; simp at this; omega); have hy1 : w.heap.size < w1.heap.size := by omega)
  have hB1 := bgo (bal (bal (Below.refl _ _) _) _) hb1
  have hT1 := hT.below hg hB1
  rw [rounds_succ]
  go_wp2_with (go_at_call 30; go_must (refine (vfits_any B 3 _ (by omega) hT1 (by omega)).mono ?_); rintro e w2 ⟨rfl, hb2⟩; obtain ⟨hc2, hf2⟩ := bcell hb2; have hz2 : w.heap.size + 1 < w2.heap.size := (by have := hb2.size; omega); have hy2 : w.heap.size < w2.heap.size := by omega)
  go_ret2
  exact ⟨rfl, bgo hB1 hb2⟩

set_option maxHeartbeats 2000000 in
theorem join_noC (A B C O : Int) (w : World) (hT : TabAt w) (hg : 0 < w.heap.size) (a2 : A ≤ 9223372036854775807) (b2 : B ≤ 9223372036854775807) (c2 : C ≤ 9223372036854775807) (o2 : O ≤ 9223372036854775807) (k1 : smallB A 3 = true) (k2 : smallB B 3 = true) (k3 : smallB C 3 = false) :
    Calls Tryd.prog 18 #[partsV A B C O] w fun e w' => e = .returned (.tuple #[.int .u64 0, .int .i64 3]) ∧ Below w.heap.size w w' := by
  go_enter Tryd.func18, Tryd.ntmps18
  go_wp2_with fail
  refine wp_loop_rounds 4 ?_
  rw [rounds_succ]
  go_wp2_with (go_at_call 30; go_must (refine (vfits_any A 3 _ (by omega) (by exact hT.below hg (bal (bal (Below.refl _ _) _) _)) (by simp)).mono ?_); rintro e w1 ⟨rfl, hb1⟩; obtain ⟨hc1, hf1⟩ := bcell hb1; have hz1 : w.heap.size + 1 < w1.heap.size := (by have := hb1.size; simp at this; omega); have hy1 : w.heap.size < w1.heap.size := by omega)
  have hB1 := bgo (bal (bal (Below.refl _ _) _) _) hb1
  have hT1 := hT.below hg hB1
  rw [rounds_succ]
  go_wp2_with (go_at_call 30; go_must (refine (vfits_any B 3 _ (by omega) hT1 (by omega)).mono ?_); rintro e w2 ⟨rfl, hb2⟩; obtain ⟨hc2, hf2⟩ := bcell hb2; have hz2 : w.heap.size + 1 < w2.heap.size := (by have := hb2.size; omega); have hy2 : w.heap.size < w2.heap.size := by omega)
  have hT2 := hT1.below (by omega) hb2
  rw [rounds_succ]
  go_wp2_with (go_at_call 30; go_must (refine (vfits_any C 3 _ (by omega) hT2 (by omega)).mono ?_); rintro e w3 ⟨rfl, hb3⟩; obtain ⟨hc3, hf3⟩ := bcell hb3; have hz3 : w.heap.size + 1 < w3.heap.size := (by have := hb3.size; omega); have hy3 : w.heap.size < w3.heap.size := by omega)
  go_ret2
  exact ⟨rfl, bgo (bgo hB1 hb2) hb3⟩

set_option maxHeartbeats 2000000 in
theorem join_noO (A B C O : Int) (w : World) (hT : TabAt w) (hg : 0 < w.heap.size) (a2 : A ≤ 9223372036854775807) (b2 : B ≤ 9223372036854775807) (c2 : C ≤ 9223372036854775807) (o2 : O ≤ 9223372036854775807) (k1 : smallB A 3 = true) (k2 : smallB B 3 = true) (k3 : smallB C 3 = true) (k4 : smallB O 6 = false) :
    Calls Tryd.prog 18 #[partsV A B C O] w fun e w' => e = .returned (.tuple #[.int .u64 0, .int .i64 3]) ∧ Below w.heap.size w w' := by
  go_enter Tryd.func18, Tryd.ntmps18
  go_wp2_with fail
  refine wp_loop_rounds 4 ?_
  rw [rounds_succ]
  go_wp2_with (go_at_call 30; go_must (refine (vfits_any A 3 _ (by omega) (by exact hT.below hg (bal (bal (Below.refl _ _) _) _)) (by simp)).mono ?_); rintro e w1 ⟨rfl, hb1⟩; obtain ⟨hc1, hf1⟩ := bcell hb1; have hz1 : w.heap.size + 1 < w1.heap.size := (by have := hb1.size; simp at this; omega); have hy1 : w.heap.size < w1.heap.size := by omega)
  have hB1 := bgo (bal (bal (Below.refl _ _) _) _) hb1
  have hT1 := hT.below hg hB1
  rw [rounds_succ]
  go_wp2_with (go_at_call 30; go_must (refine (vfits_any B 3 _ (by omega) hT1 (by omega)).mono ?_); rintro e w2 ⟨rfl, hb2⟩; obtain ⟨hc2, hf2⟩ := bcell hb2; have hz2 : w.heap.size + 1 < w2.heap.size := (by have := hb2.size; omega); have hy2 : w.heap.size < w2.heap.size := by omega)
  have hT2 := hT1.below (by omega) hb2
  rw [rounds_succ]
  go_wp2_with (go_at_call 30; go_must (refine (vfits_any C 3 _ (by omega) hT2 (by omega)).mono ?_); rintro e w3 ⟨rfl, hb3⟩; obtain ⟨hc3, hf3⟩ := bcell hb3; have hz3 : w.heap.size + 1 < w3.heap.size := (by have := hb3.size; omega); have hy3 : w.heap.size < w3.heap.size := by omega)
  have hT3 := hT2.below (by omega) hb3
  rw [rounds_succ]
  go_wp2_with (go_at_call 30; go_must (refine (vfits_any O 6 _ (by omega) hT3 (by omega)).mono ?_); rintro e w4 ⟨rfl, hb4⟩; obtain ⟨hc4, hf4⟩ := bcell hb4; have hz4 : w.heap.size + 1 < w4.heap.size := (by have := hb4.size; omega); have hy4 : w.heap.size < w4.heap.size := by omega)
  go_ret2
  exact ⟨rfl, bgo (bgo (bgo hB1 hb2) hb3) hb4⟩

/-- May these be parts of an address? -/
def partsB (A B C O : Int) : Bool := decide ((0 ≤ A ∧ A < 8) ∧ (0 ≤ B ∧ B < 8) ∧ (0 ≤ C ∧ C < 8) ∧ (0 ≤ O ∧ O < 64))
theorem join_no (A B C O : Int) (w : World) (hT : TabAt w) (hg : 0 < w.heap.size) (a2 : A ≤ 9223372036854775807) (b2 : B ≤ 9223372036854775807) (c2 : C ≤ 9223372036854775807) (o2 : O ≤ 9223372036854775807) (h : partsB A B C O = false) :
    Calls Tryd.prog 18 #[partsV A B C O] w fun e w' => e = .returned (.tuple #[.int .u64 0, .int .i64 3]) ∧ Below w.heap.size w w' := by
  cases k1 : smallB A 3 with
  | false => exact join_noA A B C O w hT hg a2 b2 c2 o2 k1
  | true =>
    cases k2 : smallB B 3 with
    | false => exact join_noB A B C O w hT hg a2 b2 c2 o2 k1 k2
    | true =>
      cases k3 : smallB C 3 with
      | false => exact join_noC A B C O w hT hg a2 b2 c2 o2 k1 k2 k3
      | true =>
        cases k4 : smallB O 6 with
        | false => exact join_noO A B C O w hT hg a2 b2 c2 o2 k1 k2 k3 k4
        | true =>
          exfalso
          unfold smallB at k1 k2 k3 k4
          have e1 := of_decide_eq_true k1
          have e2 := of_decide_eq_true k2
          have e3 := of_decide_eq_true k3
          have e4 := of_decide_eq_true k4
          have t3 : (2 : Int) ^ (3 : Int).toNat = 8 := by decide
          have t6 : (2 : Int) ^ (6 : Int).toNat = 64 := by decide
          rw [t3] at e1 e2 e3
          rw [t6] at e4
          unfold partsB at h
          exact of_decide_eq_false h ⟨e1, e2, e3, e4⟩

def belowN (x n : Int) : Bool := decide (0 ≤ x ∧ x < n)
theorem smallR_any (x n : Int) (w : World) : Calls Tryd.prog 31 #[.int .i64 x, .int .i64 n] w fun e w' => e = .returned (.bool (belowN x n)) ∧ w = w' := by
  go_enter Tryd.func31, Tryd.ntmps31
  go_wp2
  all_goals go_ret
  all_goals refine ⟨ret_bool ?_, rfl⟩
  · by_cases h : x < n
    · rw [show belowN x n = true from decide_eq_true ⟨‹_›, h⟩]; exact decide_eq_true h
    · rw [show belowN x n = false from decide_eq_false (by omega)]; exact decide_eq_false h
  · exact (show belowN x n = false from decide_eq_false (by omega)).symm

set_option maxHeartbeats 1000000 in
theorem joinR_yes (A B C O : Int) (w : World) (a0 : 0 ≤ A) (a1 : A < 8) (b0 : 0 ≤ B) (b1 : B < 8) (c0 : 0 ≤ C) (c1 : C < 8) (o0 : 0 ≤ O) (o1 : O < 64) :
    Calls Tryd.prog 19 #[partsV A B C O] w fun e w' => e = .returned (.tuple #[.int .u64 (A * 4096 + B * 512 + C * 64 + O), .int .i64 0]) ∧ Below w.heap.size w w' := by
  have k1 : belowN A 8 = true := decide_eq_true ⟨a0, a1⟩
  have k2 : belowN B 8 = true := decide_eq_true ⟨b0, b1⟩
  have k3 : belowN C 8 = true := decide_eq_true ⟨c0, c1⟩
  have k4 : belowN O 64 = true := decide_eq_true ⟨o0, o1⟩
  go_enter Tryd.func19, Tryd.ntmps19
  go_wp2_with (go_at_call 31; refine (smallR_any _ _ _).mono ?_; rintro e w1 ⟨rfl, rfl⟩)
  go_ret2
  exact ⟨rfl, (Below.refl _ _).alloc (Nat.le_refl _) _⟩
set_option maxHeartbeats 1000000 in
theorem joinR_no (A B C O : Int) (w : World) (h : partsB A B C O = false) :
    Calls Tryd.prog 19 #[partsV A B C O] w fun e w' => e = .returned (.tuple #[.int .u64 0, .int .i64 3]) ∧ Below w.heap.size w w' := by
  cases k1 : belowN A 8 with
  | false =>
    go_enter Tryd.func19, Tryd.ntmps19
    go_wp2_with (go_at_call 31; refine (smallR_any _ _ _).mono ?_; rintro e w1 ⟨rfl, rfl⟩)
    go_ret2
    exact ⟨rfl, (Below.refl _ _).alloc (Nat.le_refl _) _⟩
  | true =>
    cases k2 : belowN B 8 with
    | false =>
      go_enter Tryd.func19, Tryd.ntmps19
      go_wp2_with (go_at_call 31; refine (smallR_any _ _ _).mono ?_; rintro e w1 ⟨rfl, rfl⟩)
      go_ret2
      exact ⟨rfl, (Below.refl _ _).alloc (Nat.le_refl _) _⟩
    | true =>
      cases k3 : belowN C 8 with
      | false =>
        go_enter Tryd.func19, Tryd.ntmps19
        go_wp2_with (go_at_call 31; refine (smallR_any _ _ _).mono ?_; rintro e w1 ⟨rfl, rfl⟩)
        go_ret2
        exact ⟨rfl, (Below.refl _ _).alloc (Nat.le_refl _) _⟩
      | true =>
        have k4 : belowN O 64 = false := by
          have e1 := of_decide_eq_true k1
          have e2 := of_decide_eq_true k2
          have e3 := of_decide_eq_true k3
          refine decide_eq_false fun e4 => ?_
          unfold partsB at h
          exact of_decide_eq_false h ⟨e1, e2, e3, e4⟩
        go_enter Tryd.func19, Tryd.ntmps19
        go_wp2_with (go_at_call 31; refine (smallR_any _ _ _).mono ?_; rintro e w1 ⟨rfl, rfl⟩)
        go_ret2
        exact ⟨rfl, (Below.refl _ _).alloc (Nat.le_refl _) _⟩

theorem baseR_no (p : Int) (w : World) (h : p < 0 ∨ 512 ≤ p) :
    Calls Tryd.prog 21 #[.int .i64 p] w fun e w' => e = .returned (.tuple #[.int .u64 0, .int .i64 3]) ∧ w = w' := by
  have k : belowN p 512 = false := decide_eq_false (by omega)
  go_enter Tryd.func21, Tryd.ntmps21
  go_wp2_with (go_at_call 31; refine (smallR_any _ _ _).mono ?_; rintro e w1 ⟨rfl, rfl⟩)
  go_ret2
  exact ⟨rfl, rfl⟩
theorem baseR_yes (p : Int) (w : World) (h0 : 0 ≤ p) (h : p < 512) :
    Calls Tryd.prog 21 #[.int .i64 p] w fun e w' => e = .returned (.tuple #[.int .u64 (p * 64), .int .i64 0]) ∧ w = w' := by
  have k : belowN p 512 = true := decide_eq_true ⟨h0, h⟩
  go_enter Tryd.func21, Tryd.ntmps21
  go_wp2_with (go_at_call 31; refine (smallR_any _ _ _).mono ?_; rintro e w1 ⟨rfl, rfl⟩)
  go_ret2
  exact ⟨rfl, rfl⟩
theorem indexR_no (p l : Int) (w : World) (h : p < 0 ∨ 512 ≤ p ∨ l < 1 ∨ 3 < l) :
    Calls Tryd.prog 23 #[.int .i64 p, .int .i64 l] w fun e w' => e = .returned (.int .i64 (-1)) ∧ w = w' := by
  cases k : belowN p 512 with
  | false =>
    go_enter Tryd.func23, Tryd.ntmps23
    go_wp2_with (go_at_call 31; refine (smallR_any _ _ _).mono ?_; rintro e w1 ⟨rfl, rfl⟩)
    go_ret
    exact ⟨rfl, rfl⟩
  | true =>
    have e1 := of_decide_eq_true k
    have d1 : (l == 1) = false := by simp; omega
    have d2 : (l == 2) = false := by simp; omega
    have d3 : (l == 3) = false := by simp; omega
    go_enter Tryd.func23, Tryd.ntmps23
    go_wp2_with (go_at_call 31; refine (smallR_any _ _ _).mono ?_; rintro e w1 ⟨rfl, rfl⟩)
    go_ret
    exact ⟨rfl, rfl⟩
theorem indexR_yes (p l : Int) (w : World) (h0 : 0 ≤ p) (h : p < 512) (h1 : 1 ≤ l) (h2 : l ≤ 3) :
    Calls Tryd.prog 23 #[.int .i64 p, .int .i64 l] w fun e w' => e = .returned (.int .i64 (indexN p l)) ∧ w = w' := by
  have k : belowN p 512 = true := decide_eq_true ⟨h0, h⟩
  obtain rfl | rfl | rfl : l = 1 ∨ l = 2 ∨ l = 3 := by omega
  all_goals
    go_enter Tryd.func23, Tryd.ntmps23
    go_wp2_with (go_at_call 31; refine (smallR_any _ _ _).mono ?_; rintro e w1 ⟨rfl, rfl⟩)
    go_ret
    exact ⟨rfl, rfl⟩
end Go.Proofs.YtdmlcbbheabdpaaDoor
