/- Contracts of pte.Encode and of chapter 3's own Encode. -/
import Derived.Test.YtdmlcbbheabdpaaDoorPteMay
import Derived.Deep.QuietTactic
import Derived.BigQuiet
namespace Go.Proofs.YtdmlcbbheabdpaaDoor
set_option linter.unusedVariables false
open Go.ChangeShapes Go.WideShapes Go.ChangeAt Go.RowKit
attribute [local go_sem] setCell_drewN alloc_drewN

/-- The word of an entry that may be. -/
def wordE (v l r w : Bool) (f : Int) : Int := (if v then 1 + 256 * f else 0) + (if l then 2 else 0) + (if r then 4 else 0) + (if w then 8 else 0)
def flagN (on : Bool) (a : Nat) : Int := if on then 2 ^ a else 0
theorem flag_any (on : Bool) (a : Nat) (w : World) (h : a ≤ 3) : Calls Tryd.prog 28 #[.bool on, .int .i64 a] w fun e w' => e = .returned (.int .u64 (flagN on a)) ∧ w = w' := by
  obtain rfl | rfl | rfl | rfl : a = 0 ∨ a = 1 ∨ a = 2 ∨ a = 3 := by omega
  all_goals
    cases on
    all_goals
      go_enter Tryd.func28, Tryd.ntmps28
      go_wp2
      go_ret
      exact ⟨rfl, rfl⟩

theorem enc_key_nat : ∀ x : Nat, x < 64 → ∀ v l r w : Bool, mayE v l r w x = true →
    bits BinOp.or IntKind.u64 (bits BinOp.or IntKind.u64 (bits BinOp.or IntKind.u64 (bits BinOp.or IntKind.u64 ((withN 0 8 6 x : Nat) : Int) (flagN v 0)) (flagN l 1)) (flagN r 2)) (flagN w 3) = wordE v l r w x := by decide +kernel

theorem enc_no (v l r w : Bool) (f : Int) (W : World) (h : mayE v l r w f = false) : Calls Tryd.prog 9 #[entV v l r w f] W fun e W' => e = .returned (.tuple #[.int .u64 0, .int .i64 5]) ∧ Below W.heap.size W W' := by
  go_enter Tryd.func9, Tryd.ntmps9
  go_wp2_with (go_at_call 12; refine (may_any v l r w f _).mono ?_; rintro e w1 ⟨rfl, hb1⟩)
  go_ret2
  exact ⟨rfl, bgo (bal (Below.refl _ _) _) hb1⟩

set_option maxHeartbeats 1000000 in
theorem enc_yes (v l r w : Bool) (f : Int) (W : World) (h : mayE v l r w f = true) (hT : TabAt W) (hg : 0 < W.heap.size) :
    Calls Tryd.prog 9 #[entV v l r w f] W fun e W' => e = .returned (.tuple #[.int .u64 (wordE v l r w f), .int .i64 0]) ∧ Below W.heap.size W W' := by
  obtain ⟨f0, f1⟩ := mayE_f h
  obtain ⟨x, rfl⟩ := Int.eq_ofNat_of_zero_le f0
  have HK := Lib.hid (enc_key_nat x (by omega) v l r w h)
  have hfit : fitsB x 6 = true := decide_eq_true (by simp; omega)
  go_enter Tryd.func9, Tryd.ntmps9
  go_wp2_with (first
    | (go_at_call 12; refine (may_any v l r w x _).mono ?_; rintro e w1 ⟨rfl, hb1⟩; obtain ⟨hc1, hf1⟩ := bcell hb1; have hz1 : W.heap.size < w1.heap.size := (by have := hb1.size; simp at this; omega); have hT1 := hT.below hg (bgo (bal (Below.refl _ _) _) hb1); have hg1 : 0 < w1.heap.size := (by omega))
    | (go_at_call 27; refine (with_yes 0 8 6 x _ (by decide) hfit (by decide) (by omega) hT1 hg1).mono ?_; rintro e w2 ⟨rfl, hb2⟩; obtain ⟨hc2, hf2⟩ := bcell hb2; have hz2 : W.heap.size < w2.heap.size := (by have := hb2.size; omega)))
  go_quiet (first
    | (go_at_call_of 28 (.bool v, .int .i64 0); exact Calls.quiet_of_same (same_q (flag_any v 0 _ (by decide))))
    | (go_at_call 28; first | exact Calls.quiet_of_same (same_q (flag_any v 0 _ (by decide))) | exact Calls.quiet_of_same (same_q (flag_any l 1 _ (by decide))) | exact Calls.quiet_of_same (same_q (flag_any r 2 _ (by decide))) | exact Calls.quiet_of_same (same_q (flag_any w 3 _ (by decide)))))
  go_wp2
  go_ret2
  exact ⟨by rw [← HK.out]; rfl, below_drewN (bgo (bgo (bal (Below.refl _ _) _) hb1) hb2) _⟩
end Go.Proofs.YtdmlcbbheabdpaaDoor
