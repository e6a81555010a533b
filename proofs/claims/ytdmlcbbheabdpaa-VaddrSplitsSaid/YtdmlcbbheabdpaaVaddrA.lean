/- The walks of the laws VaddrSplits and VaddrLevels. -/
import Derived.Test.YtdmlcbbheabdpaaVaddr
import Derived.Test.YtdmlcbbheabdpaaLow
import Derived.Test.YtdmlcbbheabdpaaFrame
import Derived.Deep.RegionHeld3
namespace Go.Proofs.Ytdmlcbbheabdpaa
set_option linter.unusedVariables false
open Go.ChangeShapes Go.WideShapes Go.ChangeAt Go.RowKit
attribute [local go_sem] setCell_drewN alloc_drewN

theorem bd_u64 {a : Int} (h : (Lit.int .u64 a).wf = true) : 0 ≤ a ∧ a ≤ 18446744073709551615 := by
  simp [Lit.wf, IntKind.min, IntKind.max, IntKind.signed, IntKind.bits] at h; omega
theorem bd_i64 {a : Int} (h : (Lit.int .i64 a).wf = true) : -9223372036854775808 ≤ a ∧ a ≤ 9223372036854775807 := by
  simp [Lit.wf, IntKind.min, IntKind.max, IntKind.signed, IntKind.bits] at h; omega

theorem num_any (a : Int) (w : World) (h : 0 ≤ a) (h' : a ≤ 100) : Calls Try.prog 9 #[.int .i64 a] w fun e w' => e = .returned (.int .i64 a) ∧ w = w' := by
  go_enter Try.func9, Try.ntmps9
  go_wp2
  go_ret
  exact ⟨rfl, rfl⟩

theorem awake4_any (w : World) : Calls Try.prog 10 #[] w fun e w' => e = .returned (.bool true) ∧ Below w.heap.size w w' := by
  go_enter Try.func10, Try.ntmps10
  go_wp2_with (first
    | (go_at_call 5; refine (split_yes 32767 _ (by decide) (by decide)).mono ?_; rintro e w' ⟨rfl, hb⟩)
    | (go_at_call 7; refine (page_yes 32767 _ (by decide) (by decide)).mono ?_; rintro e w' ⟨rfl, k, rfl⟩))
  go_ret
  exact ⟨rfl, below_drewN (hb.alloc hb.size _) _⟩

theorem splitR_no (va : Int) (w : World) (h : 32768 ≤ va) :
    Calls Try.prog 6 #[.int .u64 va] w fun e w' => e = .returned (.tuple #[partsV 0 0 0 0, .int .i64 3]) ∧ Below w.heap.size w w' := by
  go_enter Try.func6, Try.ntmps6
  go_wp2
  exact bodyPost_ret (v := .tuple #[partsV 0 0 0 0, .int .i64 3]) (by simp [results, Try.results6, go_sem]) rfl ⟨rfl, (Below.refl _ _).alloc (Nat.le_refl _) _⟩

theorem splitR_yes (va : Int) (w : World) (h0 : 0 ≤ va) (h : va < 32768) :
    Calls Try.prog 6 #[.int .u64 va] w fun e w' => e = .returned (.tuple #[partsV (va / 4096) (va / 512 % 8) (va / 64 % 8) (va % 64), .int .i64 0]) ∧ Below w.heap.size w w' := by
  go_enter Try.func6, Try.ntmps6
  go_wp2
  exact bodyPost_ret (v := .tuple #[partsV (va / 4096) (va / 512 % 8) (va / 64 % 8) (va % 64), .int .i64 0]) (by simp [results, Try.results6, go_sem]) rfl ⟨rfl, (Below.refl _ _).alloc (Nat.le_refl _) _⟩

theorem pageR_no (va : Int) (w : World) (h : 32768 ≤ va) :
    Calls Try.prog 8 #[.int .u64 va] w fun e w' => e = .returned (.tuple #[.int .i64 0, .int .i64 3]) ∧ w = w' := by
  go_enter Try.func8, Try.ntmps8
  go_wp2
  go_ret2
  exact ⟨rfl, rfl⟩
theorem pageR_yes (va : Int) (w : World) (h0 : 0 ≤ va) (h : va < 32768) :
    Calls Try.prog 8 #[.int .u64 va] w fun e w' => e = .returned (.tuple #[.int .i64 (va / 64), .int .i64 0]) ∧ w = w' := by
  go_enter Try.func8, Try.ntmps8
  go_wp2
  go_ret2
  exact ⟨rfl, rfl⟩

set_option maxHeartbeats 1000000 in
theorem walk_vaddrSplits (a0 : Int) (w0 : (Lit.int .u64 a0).wf = true) (W : World) :
    Calls Try.prog 3 #[.int .u64 a0] W fun e w' => e = .returned (.bool true) ∧ Below W.heap.size W w' := by
  obtain ⟨b0, b1⟩ := bd_u64 w0
  clear w0
  by_cases h : a0 < 32768
  · go_enter Try.func3, Try.ntmps3
    go_wp2_with (first
      | (go_at_call 5; refine (split_yes a0 _ b0 h).mono ?_; rintro e w1 ⟨rfl, hb1⟩)
      | (go_at_call 6; refine (splitR_yes a0 _ b0 h).mono ?_; rintro e w2 ⟨rfl, hb2⟩; obtain ⟨hc2, hf2⟩ := bcell hb2; have hz2 : w1.heap.size < w2.heap.size := by have := hb2.size; simp at this; omega)
      | (go_at_call 7; refine (page_yes a0 _ b0 h).mono ?_; rintro e w3 ⟨rfl, k, rfl⟩)
      | (go_at_call 8; refine (pageR_yes a0 _ b0 h).mono ?_; rintro e w4 ⟨rfl, rfl⟩)
      | (go_at_call 9; refine (num_any _ _ (by decide) (by decide)).mono ?_; rintro e w5 ⟨rfl, rfl⟩)
      | (go_at_call 10; refine (awake4_any _).mono ?_; rintro e w6 ⟨rfl, hb6⟩))
    go_ret
    exact ⟨rfl, by repeat (first | exact Below.refl _ _ | assumption | refine below_drewN ?_ _ | refine bal ?_ _ | refine bgo ?_ (by assumption))⟩
  · have h' : 32768 ≤ a0 := by omega
    go_enter Try.func3, Try.ntmps3
    go_wp2_with (first
      | (go_at_call 5; refine (split_no a0 _ h').mono ?_; rintro e w1 ⟨rfl, hb1⟩)
      | (go_at_call 6; refine (splitR_no a0 _ h').mono ?_; rintro e w2 ⟨rfl, hb2⟩; obtain ⟨hc2, hf2⟩ := bcell hb2; have hz2 : w1.heap.size < w2.heap.size := by have := hb2.size; simp at this; omega)
      | (go_at_call 7; refine (page_no a0 _ h').mono ?_; rintro e w3 ⟨rfl, k, rfl⟩)
      | (go_at_call 8; refine (pageR_no a0 _ h').mono ?_; rintro e w4 ⟨rfl, rfl⟩)
      | (go_at_call 9; refine (num_any _ _ (by decide) (by decide)).mono ?_; rintro e w5 ⟨rfl, rfl⟩)
      | (go_at_call 10; refine (awake4_any _).mono ?_; rintro e w6 ⟨rfl, hb6⟩))
    go_ret
    exact ⟨rfl, by repeat (first | exact Below.refl _ _ | assumption | refine below_drewN ?_ _ | refine bal ?_ _ | refine bgo ?_ (by assumption))⟩

set_option maxHeartbeats 1000000 in
theorem walk_vaddrLevels (a0 : Int) (w0 : (Lit.int .i64 a0).wf = true) (W : World) :
    Calls Try.prog 4 #[.int .i64 a0] W fun e w' => e = .returned (.bool true) ∧ Below W.heap.size W w' := by
  obtain ⟨p, hp⟩ : ∃ p, lowN a0 512 = p := ⟨_, rfl⟩
  have hlow : ∀ w : World, Calls Try.prog 11 #[.int .i64 a0, .int .i64 512] w fun e w' => e = .returned (.int .i64 p) ∧ w = w' := fun w => hp ▸ low_any a0 512 w (by decide) (by decide)
  obtain ⟨p0, p1⟩ := lowN_bd a0 512 (by decide)
  rw [hp] at p0 p1
  have HL := Lib.hid hlow
  clear hp hlow w0
  have f1 : (p * 64 / 4096 == indexN p 1) = true := by rw [beq_iff_eq, indexN_1]; omega
  have f2 : (p * 64 / 512 % 8 == indexN p 2) = true := by rw [beq_iff_eq, indexN_2]; omega
  have f3 : (p % 8 == indexN p 3) = true := by rw [beq_iff_eq, indexN_3]
  have f4 : (p * 64 % 64 == 0) = true := by rw [beq_iff_eq]; omega
  have f5 : (64 * (p * 64 / 4096) + 8 * (p * 64 / 512 % 8) + p % 8 == p) = true := by rw [beq_iff_eq]; omega
  have e1 : IntKind.i64.wrap (64 * (p * 64 / 4096)) = 64 * (p * 64 / 4096) := IntWalk.i64_in _ (by omega)
  have e2 : IntKind.i64.wrap (8 * (p * 64 / 512 % 8)) = 8 * (p * 64 / 512 % 8) := IntWalk.i64_in _ (by omega)
  have e3 : IntKind.i64.wrap (64 * (p * 64 / 4096) + 8 * (p * 64 / 512 % 8)) = 64 * (p * 64 / 4096) + 8 * (p * 64 / 512 % 8) := IntWalk.i64_in _ (by omega)
  have e4 : IntKind.i64.wrap (64 * (p * 64 / 4096) + 8 * (p * 64 / 512 % 8) + p % 8) = p := by rw [IntWalk.i64_in _ (by omega)]; omega
  go_enter Try.func4, Try.ntmps4
  go_wp2_with (first
    | (go_at_call 11; refine (HL.out _).mono ?_; rintro e w1 ⟨rfl, rfl⟩)
    | (go_at_call 12; refine (base_yes p _ p0 p1).mono ?_; rintro e w1 ⟨rfl, rfl⟩)
    | (go_at_call 5; refine (split_yes (p * 64) _ (by omega) (by omega)).mono ?_; rintro e w2 ⟨rfl, hb2⟩)
    | (go_at_call 13; refine (index_yes p _ _ p0 p1 (by decide) (by decide)).mono ?_; rintro e w3 ⟨rfl, k, rfl⟩)
    | (go_at_call 10; refine (awake4_any _).mono ?_; rintro e w6 ⟨rfl, hb6⟩))
  go_region_held3 (fun w' => w'.cell? ⟨w2.heap.size, 0, none⟩ = some (.int .i64 (p * 64 / 4096)) ∧ w'.cell? ⟨w2.heap.size, 1, none⟩ = some (.int .i64 (p * 64 / 512 % 8)) ∧ w'.cell? ⟨w2.heap.size, 2, none⟩ = some (.int .i64 (p % 8)) ∧ w'.cell? ⟨w2.heap.size, 3, none⟩ = some (.int .i64 0) ∧ w2.heap.size < w'.heap.size ∧ Below W.heap.size W w')
    (first
      | exact ⟨by simp, by simp, by simp, by simp, by simp, (bal hb2 _).drew⟩
      | exact ⟨by simp, by simp, by simp, by simp, by simp, below_drewN (bal hb2 _) _⟩
      | exact ⟨((bcell hb6).1 _ _ (by simp)).trans (by simp), ((bcell hb6).1 _ _ (by simp)).trans (by simp), ((bcell hb6).1 _ _ (by simp)).trans (by simp), ((bcell hb6).1 _ _ (by simp)).trans (by simp), by have := hb6.size; simp at this; omega, bgo (below_drewN (bal hb2 _) _) hb6⟩
      | (simp only [World.cell?_drewN, World.heap_drewN]; exact ⟨‹_›, ‹_›, ‹_›, ‹_›, ‹_›, below_drewN ‹_› _⟩)
      | exact ⟨‹_›, ‹_›, ‹_›, ‹_›, ‹_›, ‹_›⟩
      | go_keep)
    (first
      | (go_at_call 13; refine (index_yes p _ _ p0 p1 (by decide) (by decide)).mono ?_; rintro e w3 ⟨rfl, k, rfl⟩)
      | (go_at_call 10; refine (awake4_any _).mono ?_; rintro e w6 ⟨rfl, hb6⟩))
  go_wp2
  go_ret
  exact ⟨rfl, bgo (below_drewN (bal hb2 _) _) hb6⟩
end Go.Proofs.Ytdmlcbbheabdpaa
