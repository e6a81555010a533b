/- Chapter 1's own answer: Ones, Bits. -/
import Derived.Test.YtbhaagofckgbhaaDoorWordLaws
import Derived.Lib.Hide
import Derived.Test.YtbhaagofckgbhaaDoorFrame
import Derived.Laws.Tables
import Derived.LoopTactic
namespace Go.Proofs.YtbhaagofckgbhaaDoor
set_option linter.unusedVariables false
open Go.ChangeShapes Go.WideShapes Go.ChangeAt Go.RowKit

theorem two_ones (k : Nat) (h : k < 64) : IntKind.u64.wrap (IntKind.u64.wrap ((2 ^ k - 1 : Int) * 2) + 1) = 2 ^ (k + 1) - 1 := by
  have e : ((2 : Int) ^ k) = ((2 ^ k : Nat) : Int) := by simp
  have h2 : (2 : Nat) ^ (k + 1) ≤ 2 ^ 64 := Nat.pow_le_pow_right (by decide) (by omega)
  have h3 : (2 : Nat) ^ (k + 1) = 2 ^ k * 2 := Nat.pow_succ ..
  have h4 : 0 < (2 : Nat) ^ k := Nat.two_pow_pos _
  rw [IntKind.wrap_u64, IntKind.wrap_u64, Int.pow_succ, e]
  generalize (2 : Nat) ^ k = m at *
  omega
theorem refOnes_any (n : Int) (w : World) : Calls Tryd.prog 15 #[.int .i64 n] w fun e w' => e = .returned (.int .u64 (onesN n)) ∧ w = w' := by
  go_enter Tryd.func15, Tryd.ntmps15
  go_wp2
  go_loop [3, 4] (fun v i => ∃ k : Nat, k ≤ 64 ∧ (k = 0 ∨ (k : Int) ≤ n) ∧ i = .int .i64 k ∧ v = .int .u64 (2 ^ k - 1)) (fun _ i => 64 - (intOf i).toNat)
  case atStart => exact ⟨0, by omega, .inl rfl, rfl, rfl⟩
  case round =>
    obtain ⟨k, hk, hn, rfl, rfl⟩ := hrel
    by_cases h1 : (k : Int) < n
    · by_cases h2 : k < 64
      · have hv := two_ones k h2
        go_wp2
        go_round
        case rel => exact ⟨k + 1, by omega, .inr (by omega), by go_num, by rw [← hv]⟩
        case measure => simp [intOf]; omega
      · go_wp2
        go_ret
        refine ⟨ret_int ?_, rfl⟩
        obtain rfl : k = 64 := by omega
        unfold onesN
        rw [if_neg (by omega), if_pos (by omega)]
        rfl
    · go_wp2
      go_ret
      refine ⟨ret_int ?_, rfl⟩
      unfold onesN
      rcases hn with rfl | hn
      · rw [if_pos (by omega)]; rfl
      · obtain rfl : n = k := by omega
        by_cases h0 : k = 0
        · subst h0; rfl
        · by_cases h64 : k = 64
          · subst h64; rfl
          · rw [if_neg (by omega), if_neg (by omega)]; simp

theorem belowRow {B g : Nat} {w0 w : World} (hb : Below B w0 w) (hg : B ≤ g) (cs : Array Value) : Below B w0 (w.setRow g cs) :=
  ⟨hb.os, hb.tape, hb.output, by simp; exact hb.size, fun k hk => (setRow_other w g k cs (by omega)).trans (hb.block k hk)⟩

/-- The 64 cells in which the bits below k have been written. -/
def bitsA (v k : Nat) : Array Value := ((List.range 64).map fun j => Value.int .i64 (if j < k then (v / 2 ^ j % 2 : Nat) else 0 : Nat)).toArray
theorem bitsA_size (v k : Nat) : (bitsA v k).size = 64 := by simp [bitsA]
theorem bitsA_get (v k j : Nat) (h : j < 64) : (bitsA v k)[j]? = some (.int .i64 (if j < k then (v / 2 ^ j % 2 : Nat) else 0 : Nat)) := by
  simp [bitsA, List.getElem?_range h]
theorem bitsA_zero (v : Nat) : bitsA v 0 = #[.int .i64 0, .int .i64 0, .int .i64 0, .int .i64 0, .int .i64 0, .int .i64 0, .int .i64 0, .int .i64 0, .int .i64 0, .int .i64 0, .int .i64 0, .int .i64 0, .int .i64 0, .int .i64 0, .int .i64 0, .int .i64 0, .int .i64 0, .int .i64 0, .int .i64 0, .int .i64 0, .int .i64 0, .int .i64 0, .int .i64 0, .int .i64 0, .int .i64 0, .int .i64 0, .int .i64 0, .int .i64 0, .int .i64 0, .int .i64 0, .int .i64 0, .int .i64 0, .int .i64 0, .int .i64 0, .int .i64 0, .int .i64 0, .int .i64 0, .int .i64 0, .int .i64 0, .int .i64 0, .int .i64 0, .int .i64 0, .int .i64 0, .int .i64 0, .int .i64 0, .int .i64 0, .int .i64 0, .int .i64 0, .int .i64 0, .int .i64 0, .int .i64 0, .int .i64 0, .int .i64 0, .int .i64 0, .int .i64 0, .int .i64 0, .int .i64 0, .int .i64 0, .int .i64 0, .int .i64 0, .int .i64 0, .int .i64 0, .int .i64 0, .int .i64 0] := by kernel_rfl
theorem bitsA_step (v k : Nat) (h : k < 64) : (bitsA v k).setIfInBounds k (.int .i64 (v / 2 ^ k % 2 : Nat)) = bitsA v (k + 1) := by
  apply Array.ext_getElem?
  intro j
  rw [Array.getElem?_setIfInBounds]
  by_cases hj : j < 64
  · rw [bitsA_get v (k + 1) j hj]
    by_cases e : k = j
    · subst e; rw [if_pos rfl, if_pos (by rw [bitsA_size]; exact h), if_pos (by omega)]
    · rw [if_neg e, bitsA_get v k j hj]
      by_cases l : j < k
      · rw [if_pos l, if_pos (by omega)]
      · rw [if_neg l, if_neg (by omega)]
  · rw [if_neg (by omega), Array.getElem?_eq_none (by rw [bitsA_size]; omega), Array.getElem?_eq_none (by rw [bitsA_size]; omega)]
theorem bitsA_one (v k : Nat) : (bitsA v k).all (·.oneCell') = true := by
  simp [bitsA, Value.oneCell']
theorem bit_and (v : Nat) (h : v < 2 ^ 64) : bits BinOp.and IntKind.u64 (v : Int) 1 = ((v % 2 : Nat) : Int) := by
  have := u64_and_nat v 1 (by omega) (by decide)
  rw [nat_mask1] at this
  exact this
theorem cellB {W : World} {b : Nat} {cs : Array Value} {t : TypeId} (h : W.heap[b]? = some (.cells cs t (0, 0))) (j : Nat) : W.cell? ⟨b, j, none⟩ = cs[j]? ∧ W.frozen? ⟨b, j, none⟩ = false := by
  constructor <;> simp [World.cell?, World.frozen?, h]

set_option maxHeartbeats 2000000 in
theorem refBits_any (v : Nat) (W : World) (hv : v < 2 ^ 64) : Calls Tryd.prog 22 #[.int .u64 v] W fun e w' => e = .returned (.agg (bitsA v 64)) ∧ Below W.heap.size W w' := by
  have hz := bitsA_zero v
  go_enter Tryd.func22, Tryd.ntmps22
  go_wp2
  rw [← hz]
  clear hz
  go_loopw [0, 4] (fun s i wr => ∃ k : Nat, k ≤ 64 ∧ i = .int .i64 k ∧ s = .int .u64 (v / 2 ^ k : Nat) ∧ wr.heap[W.heap.size + 1]? = some (.cells (bitsA v k) 41 (0, 0)) ∧ wr.heap[W.heap.size]? = some (.cells (bitsA v 0) 41 (0, 0)) ∧ Below W.heap.size W wr)
    (fun _ i _ => 64 - (intOf i).toNat)
  case atStart =>
    refine ⟨0, by omega, rfl, by simp, ?_, ?_, bal (bal (Below.refl _ _) _) _⟩
    · have := World.alloc_heap_new (W.alloc (.cells (bitsA v 0) 41)) (.cells (bitsA v 0) 41)
      rw [World.size_alloc] at this
      exact this
    · exact (Below.heap_alloc _ _ _ (by simp)).trans (World.alloc_heap_new W _)
  case round =>
    obtain ⟨k, hk, rfl, rfl, hB, hR, hb⟩ := hrel
    by_cases hlt : k < 64
    · have g0 : wr.frozen? ⟨W.heap.size + 1, k, none⟩ = false := (cellB hB k).2
      have f0 : wr.cell? ⟨W.heap.size + 1, k, none⟩ = some (.int .i64 0) := by
        rw [(cellB hB k).1, bitsA_get v k k hlt, if_neg (by omega)]; rfl
      have hd : v / 2 ^ k < 2 ^ 64 := Nat.lt_of_le_of_lt (Nat.div_le_self _ _) hv
      have hBH := Lib.hid hB; have hRH := Lib.hid hR; clear hB hR
      go_wp2
      go_roundw
      case rel =>
        have hc : ((v : Int) / 2 ^ k) = ((v / 2 ^ k : Nat) : Int) := by simp
        have ha : wrap64 (bits BinOp.and IntKind.u64 ((v : Int) / 2 ^ k) 1) = ((v / 2 ^ k % 2 : Nat) : Int) := by
          rw [hc, bit_and _ hd]
          exact IntWalk.wrap64_in _ (by omega)
        have hq : IntKind.u64.wrap (((v : Int) / 2 ^ k).tdiv 2) = ((v / 2 ^ (k + 1) : Nat) : Int) := by
          rw [hc, Nat.pow_succ, ← Nat.div_div_eq_div_mul, IntKind.wrap_u64, Int.tdiv_eq_ediv_of_nonneg (Int.natCast_nonneg _)]
          clear ha hBH hb hRH
          generalize v / 2 ^ k = m at *
          omega
        rw [ha, hq]
        exact ⟨k + 1, by omega, by go_num, rfl, (Go.heap_setCell_same _ _ _ _ _ _ hBH.out).trans (by rw [bitsA_step v k hlt]), (Go.heap_setCell_other _ _ _ _ (by simp)).trans hRH.out, hb.setCell (by simp) _⟩
      case measure => simp [intOf]; omega
    · obtain rfl : k = 64 := by omega
      have hws : W.heap.size + 1 < wr.heap.size := (Array.getElem?_eq_some_iff.mp hB).1
      have hBH := Lib.hid hB; have hRH := Lib.hid hR; clear hB hR
      go_wp2_with (first
        | (refine wpList_load_row rfl 41 (.tmp 3) rfl (W.heap.size + 1) rfl _ _ _ _ hBH.out Tryd.underlying41 rfl (by rw [bitsA_size]; kernel_rfl) ?_)
        | (refine wpList_store_row rfl 41 (.tmp 2) _ rfl W.heap.size (bitsA v 64) rfl rfl _ _ hRH.out (by rw [bitsA_size]; kernel_rfl) (by rw [bitsA_size, bitsA_size]) (bitsA_one v 64) ?_))
      exact bodyPost_ret (results_cell_row (by rfl) _ _ W.heap.size _ (bitsA v 64) _ _ rfl (setRow_heap _ _ _ _ _ _ hRH.out) Tryd.underlying41 rfl (by rw [bitsA_size]; kernel_rfl)) rfl ⟨rfl, belowRow hb (Nat.le_refl _) _⟩
end Go.Proofs.YtbhaagofckgbhaaDoor
