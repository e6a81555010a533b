import Derived.Lib.TrailingZeros
import Derived.Laws.BitsAllLaws
import Derived.WalkKit
import Derived.RangeFuncNested
import Derived.RangeFuncBound
import Derived.RangeFuncCalls
import Derived.RangeFuncLeaves
import Derived.RangeFuncFrom
import Derived.Shelf.Abstract
import Derived.Shelf.RegionOpen
import Derived.OwnWalkIn
import Derived.TacticsInMore
import Derived.LoopNIn
import Derived.LoopIn
import Derived.Laws.Bits64b
import Derived.Test.YtekllgejmgoajaaDoorRows
namespace Go.Proofs.YtekllgejmgoajaaDoor
set_option linter.unusedVariables false
set_option linter.unusedSimpArgs false
set_option maxRecDepth 100000
set_option maxHeartbeats 8000000
section
theorem low_facts (x : Nat) (h0 : x ≠ 0) (h : x < 2 ^ 64) : Lib.ctz 64 x < 64 ∧ x.testBit (Lib.ctz 64 x) = true ∧ (∀ i, i < Lib.ctz 64 x → x.testBit i = false) ∧
  (∀ i, (x &&& (x - 1)).testBit i = (x.testBit i && decide (i ≠ Lib.ctz 64 x))) := by
 have e : Lib.ctz 64 x = Lib.ctzFrom 64 x := by simp [Lib.ctz, h0]
 obtain ⟨m, hm, hk⟩ := Lib.ctzFrom_spec 64 x (by omega) h
 rw [e]
 generalize Lib.ctzFrom 64 x = k at *
 have hp : 0 < 2 ^ k := Nat.two_pow_pos k
 have e1 : x = 2 ^ k * (2 * m + 1) + 0 := by omega
 have e2 : x - 1 = 2 ^ k * (2 * m) + (2 ^ k - 1) := by rw [hm, Nat.mul_add]; omega
 have b1 : ∀ i, x.testBit i = if i < k then false else (2 * m + 1).testBit (i - k) := fun i => by
  rw [e1, Nat.testBit_two_pow_mul_add _ hp]; simp
 have b2 : ∀ i, (x - 1).testBit i = if i < k then true else (2 * m).testBit (i - k) := fun i => by
  rw [e2, Nat.testBit_two_pow_mul_add _ (by omega)]
  by_cases hi : i < k
  ·simp [hi, Nat.testBit_two_pow_sub_one]
  ·simp [hi]
 refine ⟨hk, ?_, fun i hi => ?_, fun i => ?_⟩
 ·rw [b1]; simp [Nat.testBit_zero]
 ·rw [b1]; simp [hi]
 ·rw [Nat.testBit_and, b1, b2]
  by_cases hi : i < k
  ·simp [hi]
  ·by_cases hik : i = k
   ·subst hik; simp [Nat.testBit_zero]
   ·obtain ⟨j, rfl⟩ : ∃ j, i = k + (j + 1) := ⟨i - k - 1, by omega⟩
    have e3 : k + (j + 1) - k = j + 1 := by omega
    have d1 : (2 * m + 1) / 2 = m := by omega
    have d2 : 2 * m / 2 = m := by omega
    simp only [hi, if_false, e3, Nat.testBit_succ, d1, d2]
    simp
theorem lt_pow_of_bits {v n : Nat} (h : ∀ i, v.testBit i = true → i < n) : v < 2 ^ n :=
 Nat.lt_pow_two_of_testBit v fun i hi => by
  cases hb : v.testBit i with
  | false => rfl
  | true => have := h i hb; omega
theorem bits_of_lt_pow {v n i : Nat} (h : v < 2 ^ n) (hb : v.testBit i = true) : i < n := by
 apply Nat.lt_of_not_le
 intro hle
 rw [Nat.testBit_lt_two_pow (Nat.lt_of_lt_of_le h (Nat.pow_le_pow_right (by decide) hle))] at hb
 cases hb
def SetInv (v : Nat) (pre : List Nat) (rest : Nat) : Prop :=
 (∀ k ∈ pre, v.testBit k = true) ∧ (∀ k, v.testBit k = true → k ∈ pre ∨ rest.testBit k = true) ∧ (∀ k, rest.testBit k = true → v.testBit k = true) ∧ (∀ k, k < pre.length → rest.testBit k = false)
def SetAll (v : Nat) (ys : List Nat) : Prop := (∀ k ∈ ys, v.testBit k = true) ∧ (∀ k, v.testBit k = true → k ∈ ys)
def SetPart (v : Nat) (ys : List Nat) : Prop := ∀ k ∈ ys, v.testBit k = true
theorem SetInv.start (v : Nat) : SetInv v [] v := ⟨by simp, fun k h => .inr h, fun k h => h, by simp⟩
theorem SetInv.done {v : Nat} {pre : List Nat} (h : SetInv v pre 0) : SetAll v pre :=
 ⟨h.1, fun k hk => (h.2.1 k hk).elim id (fun e => by simp at e)⟩
theorem SetInv.len {v rest : Nat} {pre : List Nat} (h : SetInv v pre rest) (h0 : rest ≠ 0) (hr : rest < 2 ^ 64) : pre.length < 64 := by
 obtain ⟨hk, hb, _, _⟩ := low_facts rest h0 hr
 apply Nat.lt_of_not_le
 intro hle
 rw [h.2.2.2 _ (Nat.lt_of_lt_of_le hk hle)] at hb
 cases hb
theorem SetInv.part {v rest : Nat} {pre : List Nat} (h : SetInv v pre rest) (h0 : rest ≠ 0) (hr : rest < 2 ^ 64) : SetPart v (pre ++ [Lib.ctz 64 rest]) := by
 obtain ⟨_, hb, _, _⟩ := low_facts rest h0 hr
 intro k hk
 rcases List.mem_append.1 hk with h' | h'
 ·exact h.1 k h'
 ·simp at h'; subst h'; exact h.2.2.1 _ hb
theorem SetInv.step {v rest : Nat} {pre : List Nat} (h : SetInv v pre rest) (h0 : rest ≠ 0) (hr : rest < 2 ^ 64) : SetInv v (pre ++ [Lib.ctz 64 rest]) (rest &&& (rest - 1)) := by
 have hp := h.part h0 hr
 obtain ⟨hk, hb, hlow, hstep⟩ := low_facts rest h0 hr
 refine ⟨hp, fun k hv => ?_, fun k hv => ?_, fun k hkl => ?_⟩
 ·by_cases e : k = Lib.ctz 64 rest
  ·left; simp [e]
  ·rcases h.2.1 k hv with h' | h'
   ·left; simp [h']
   ·right; rw [hstep, h']; simp [e]
 ·rw [hstep, Bool.and_eq_true] at hv
  exact h.2.2.1 k hv.1
 ·rw [hstep]
  by_cases e : k = Lib.ctz 64 rest
  ·simp [e]
  ·simp only [List.length_append, List.length_cons, List.length_nil] at hkl
   by_cases hl : k < pre.length
   ·rw [h.2.2.2 k hl]; rfl
   ·have hpl : ¬ Lib.ctz 64 rest < pre.length := fun hlt => by rw [h.2.2.2 _ hlt] at hb; cases hb
    rw [hlow k (by omega)]; rfl
theorem step_lt {rest : Nat} (h0 : rest ≠ 0) : rest &&& (rest - 1) < rest := by
 have := Nat.and_le_right (n := rest) (m := rest - 1); omega
end
section
open Go.RowKit Go.Shelf
def TabAt (w : World) : Prop := ∀ j, j < Lib.deBruijn64tab.length → w.cell? ⟨0, j, none⟩ = some (.int .u8 (Lib.deBruijn64tab.getD j 0))
theorem TabAt.below {n : Nat} {w w' : World} (h : TabAt w) (hn : 0 < n) (hb : Below n w w') : TabAt w' := fun j hj => (hb.cell (p := ⟨0, j, none⟩) hn).trans (h j hj)
theorem tz_key (x a : Nat) (hx : x < 18446744073709551616) (hx0 : x ≠ 0) (hlow : x &&& (18446744073709551616 - x) = a) :
  IntKind.u64.wrap (bits BinOp.and IntKind.u64 (x : Int) (IntKind.u64.wrap (-(x : Int))) * 285870213051353865) / 288230376151711744 = ((a * 285870213051353865 % 18446744073709551616 / 288230376151711744 : Nat) : Int) := by
 have e1 : IntKind.u64.wrap (-(x : Int)) = ((18446744073709551616 - x : Nat) : Int) := by rw [IntKind.wrap_u64]; omega
 rw [e1, u64_and_nat x _ hx (by omega), hlow, IntKind.wrap_u64]
 omega
theorem tz_core (x k idx : Nat) (w : World) (hx0 : ((x : Int) == 0) = false)
  (key : IntKind.u64.wrap (bits BinOp.and IntKind.u64 (x : Int) (IntKind.u64.wrap (-(x : Int))) * 285870213051353865) / 288230376151711744 = (idx : Int))
  (hi : idx < 64) (hk : k < 64) (hcell : w.cell? ⟨0, idx, none⟩ = some (.int .u8 k)) :
  Calls Tryd.prog 84 #[.int .u64 x] w fun e w' => e = .returned (.int .i64 k) ∧ w = w' := by
 go_enter Tryd.func84, Tryd.ntmps84
 go_wp2_with (simp only [key])
 go_ret
 exact ⟨rfl, rfl⟩
theorem tz_any (x : Nat) (hx : x < 2 ^ 64) (hx0 : x ≠ 0) (w : World) (hT : TabAt w) :
  Calls Tryd.prog 84 #[.int .u64 x] w fun e w' => e = .returned (.int .i64 (Lib.ctz 64 x)) ∧ w = w' := by
 obtain ⟨hlow, hk⟩ := Lib.lowest_bit 64 x hx0 hx
 obtain ⟨hi, htab⟩ := Lib.deBruijn64_at _ hk
 have hcell := hT _ hi
 rw [htab] at hcell
 exact tz_core x _ _ w (by simp; omega) (tz_key x _ hx hx0 hlow) hi hk hcell
attribute [local go_sem] Oper.semAt_some
theorem set1_in (n : Nat) (hn : 1 ≤ n) (l Bn n₀ : Nat) (v : Nat) (hv : v < 2 ^ 64) (J Jx : List Nat → World → Prop)
  (hY : ∀ pre x W, J pre W → pre.length < 64 → YieldAt Fence.wide (n - 1) Tryd.prog l #[.int .i64 (x : Nat)] W fun e W' =>
   (e = .returned (.bool true) ∧ J (pre ++ [x]) W' ∧ Below n₀ W W') ∨ (e = .returned (.bool false) ∧ Jx (pre ++ [x]) W'))
  (W : World) (hBn : W.cell? ⟨Bn, 0, none⟩ = some (.int .u64 v)) (hT : TabAt W) (hg : 0 < n₀) (h0 : J [] W) :
  CallsIn Fence.wide n Tryd.prog 83 #[.func (.yield l) #[] #[], .pointer (some ⟨Bn, 0, none⟩)] W fun e W' => (∃ v, e = .returned v) ∧
   ((∃ ys, SetAll v ys ∧ J ys W') ∨ (∃ pre, SetPart v pre ∧ Jx pre W')) := by
 refine callsIn_of_wp Tryd.func83 rfl trivial ?_ rfl
 simp only [Tryd.ntmps83, List.size_toArray, List.length_cons, List.length_nil, Nat.reduceAdd, Nat.reduceSub, Array.replicate_succ, Array.replicate_zero, List.push_toArray, List.append_toArray, List.nil_append, List.cons_append]
 gi_wp2
 gi_loopw [3] (fun p wr => ∃ (pre : List Nat) (rest : Nat), p = .int .u64 (rest : Nat) ∧ rest < 2 ^ 64 ∧ SetInv v pre rest ∧ TabAt wr ∧ J pre wr)
  (fun p wr => (intOf p).toNat)
 case atStart =>
  exact ⟨[], v, rfl, hv, SetInv.start v, hT, h0⟩
 case round =>
  obtain ⟨pre, rest, rfl, hr, hI, hTr, hJs⟩ := hrel
  clear hBn hT h0 hv
  by_cases hz : rest = 0
  ·subst hz
   gi_wp2
   go_end0
   exact ⟨⟨_, rfl⟩, .inl ⟨pre, hI.done, hJs⟩⟩
  ·have hlen := hI.len hz hr
   have hI2 := hI.step hz hr
   have hP := hI.part hz hr
   obtain ⟨fn, tmps, assign, body, hy, hR⟩ := hY pre (Lib.ctz 64 rest) wr hJs hlen
   have hb : ((rest : Int) != 0) = true := by simp; omega
   have hpos : (1 : Int) ≤ rest := by omega
   have hlt : (rest : Int) ≤ 18446744073709551615 := by omega
   gi_wp2_with (refine ⟨trivial, ?_⟩; gi_at_call 84; refine (callsIn_wide.2 (tz_any rest hr hz _ hTr)).mono ?_; rintro e w' ⟨rfl, rfl⟩)
   refine hR.mono ?_
   rintro e W3 (⟨rfl, hJ3, hk3⟩ | ⟨rfl, hJx3⟩)
   ·have hT3 := hTr.below hg hk3
    gi_wp2
    go_roundw
    case rel =>
     refine ⟨pre ++ [Lib.ctz 64 rest], rest &&& (rest - 1), ?_, Nat.lt_of_le_of_lt Nat.and_le_left hr, hI2, hT3, hJ3⟩
     have e2 : ((rest : Int) - 1) = ((rest - 1 : Nat) : Int) := by omega
     rw [e2, u64_and_nat _ _ hr (by omega)]
    case measure =>
     have e2 : ((rest : Int) - 1) = ((rest - 1 : Nat) : Int) := by omega
     simp only [intOf]
     rw [e2, u64_and_nat _ _ hr (by omega)]
     have := step_lt hz
     omega
   ·gi_wp2
    refine bodyPost_ret (results_none rfl _ _ _) rfl ?_
    exact ⟨⟨_, rfl⟩, .inr ⟨_, hP, hJx3⟩⟩
end
end Go.Proofs.YtekllgejmgoajaaDoor
