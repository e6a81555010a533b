/- package asid: the iterator over a place's numbers; Assign. -/
import Derived.Test.YtfladcnkphcicaaAsidR
namespace Go.Proofs.Ytfladcnkphcicaa
set_option linter.unusedVariables false
set_option linter.unusedSimpArgs false
open Go.ChangeShapes Go.WideShapes Go.ChangeAt Go.RowKit Go.Shelf
attribute [local go_sem] Oper.semAt_some
abbrev encO (b pl : Nat) (x : Fin 4) : Array Value := #[.int .i64 ((pl : Int) * 4 + x.1), .pointer (some ⟨b, 9 + (pl * 4 + x.1) * 3, none⟩)]
/-- What the iterator over a place finds again: its two boxes. -/
def KpO (p a : Nat) (W W' : World) : Prop := W'.heap[p]? = W.heap[p]? ∧ W'.heap[a]? = W.heap[a]? ∧ W.heap.size ≤ W'.heap.size
theorem KpO.trans {b Bn : Nat} {A B C : World} (h : KpO b Bn A B) (k : KpO b Bn B C) : KpO b Bn A C := ⟨k.1.trans h.1, k.2.1.trans h.2.1, Nat.le_trans h.2.2 k.2.2⟩
theorem ofit_in (n : Nat) (p : Option Addr) (pl : Int) (w : World) :
    CallsIn Fence.wide n Try.prog 24 #[.pointer p, .int .i64 pl] w fun e w' => e = .returned (.func (.func 27) #[] #[.pointer (some ⟨w.heap.size + 1, 0, none⟩), .pointer (some ⟨w.heap.size, 0, none⟩)]) ∧ w' = (w.alloc (.cells #[.pointer p] 24)).alloc (.cells #[.int .i64 pl] 3) := by
  refine callsIn_of_wp Try.func24 rfl trivial ?_ rfl
  simp only [Try.ntmps24, List.size_toArray, List.length_cons, List.length_nil, Nat.reduceAdd, Nat.reduceSub, Array.replicate_succ, Array.replicate_zero, List.push_toArray, List.append_toArray, List.nil_append, List.cons_append]
  gi_wp2
  go_ret
  exact ⟨rfl, rfl⟩
/-- The first k numbers of a place. -/
def fst4 (k : Nat) : List (Fin 4) := (List.finRange 4).take k
theorem fst4_succ : ∀ k (h : k < 4), fst4 (k + 1) = fst4 k ++ [⟨k, h⟩] := by decide
theorem fst4_len : ∀ k, k ≤ 4 → (fst4 k).length = k := fun k h => by unfold fst4; simp; omega
theorem fst4_mem : ∀ (k : Nat) (y : Fin 4), y ∈ fst4 k ↔ y.1 < k := by
  intro k y
  by_cases hk : k < 5
  · have : ∀ k, k < 5 → ∀ y : Fin 4, y ∈ fst4 k ↔ y.1 < k := by decide
    exact this k hk y
  · have e : fst4 k = fst4 4 := by unfold fst4; rw [List.take_of_length_le (by simp; omega), List.take_of_length_le (by simp)]
    have : ∀ y : Fin 4, y ∈ fst4 4 := by decide
    rw [e]
    exact ⟨fun _ => by have := y.2; omega, fun _ => this y⟩
set_option maxHeartbeats 1000000 in
theorem of1_seq (n b pl p a : Nat) (w0 : World) (hpl : pl < 8) (hp : w0.cell? ⟨p, 0, none⟩ = some (.int .i64 pl)) (ha : w0.cell? ⟨a, 0, none⟩ = some (.pointer (some ⟨b, 0, none⟩))) (hp1 : p < w0.heap.size) (ha1 : a < w0.heap.size) :
    SeqStopsK Fence.wide (n + 1) Try.prog 27 #[.pointer (some ⟨p, 0, none⟩), .pointer (some ⟨a, 0, none⟩)] (encO b pl) (KpO p a) (fun xs => xs = fst4 4) (fun pre => ∃ k, ∃ h : k < 4, pre = fst4 k ++ [⟨k, h⟩]) 4 w0 := by
  intro l J Jx W hB hAb hAx hY h0
  have hK0 : KpO p a w0 W := ⟨hB.block p hp1, hB.block a ha1, hB.size⟩
  have HY := Lib.hid hY
  have HP := Lib.hid hp
  have HA := Lib.hid ha
  have hpl8 : (pl : Int) < 8 := by omega
  clear hY hAb hAx hB hp ha
  refine callsIn_of_wp Try.func27 rfl trivial ?_ rfl
  simp only [Try.ntmps27, List.size_toArray, List.length_cons, List.length_nil, Nat.reduceAdd, Nat.reduceSub, Array.replicate_succ, Array.replicate_zero, List.push_toArray, List.append_toArray, List.nil_append, List.cons_append]
  gi_wp2
  gi_loopw [6] (fun i wr => ∃ k : Nat, k ≤ 4 ∧ i = .int .i64 k ∧ J (fst4 k) wr ∧ KpO p a w0 wr) (fun i _ => 4 - (intOf i).toNat)
  case atStart => exact ⟨0, by omega, rfl, h0, hK0⟩
  case round =>
    obtain ⟨k, hk, rfl, hJ, hK⟩ := hrel
    have hbp : wr.cell? ⟨p, 0, none⟩ = some (.int .i64 pl) := (cell_of_block hK.1).trans HP.out
    have hba : wr.cell? ⟨a, 0, none⟩ = some (.pointer (some ⟨b, 0, none⟩)) := (cell_of_block hK.2.1).trans HA.out
    by_cases hlt : k < 4
    · have hlt' : (k : Int) < 4 := by omega
      have hs := fst4_succ k hlt
      have HS := Lib.hid hs
      clear hs
      obtain ⟨fn, tmps, assign, body, hy, hR⟩ := HY.out _ (⟨k, hlt⟩ : Fin 4) wr hJ (by rw [fst4_len k hk]; exact hlt)
      (try dsimp only at hy)
      have HR := Lib.hid hR
      have e2 : ((pl : Int) * 4 + k).toNat = pl * 4 + k := by omega
      have i1 : 0 ≤ (pl : Int) * 4 + k := by omega
      have i2 : (pl : Int) * 4 + k < 32 := by omega
      clear hR
      gi_wp2
      refine HR.out.mono ?_
      rintro e W' (⟨rfl, hJ', hK'⟩ | ⟨rfl, hJx⟩)
      · gi_wp2
        go_roundw
        case rel => exact ⟨k + 1, by omega, by go_num, by rw [HS.out]; exact hJ', hK.trans hK'⟩
        case measure => simp [intOf]; omega
      · gi_wp2
        first
          | refine bodyPost_ret (results_none rfl _ _ _) rfl ?_
          | go_end0
        exact ⟨⟨_, rfl⟩, .inr ⟨_, ⟨k, hlt, rfl⟩, hJx⟩⟩
    · obtain rfl : k = 4 := by omega
      gi_wp2
      go_end0
      exact ⟨⟨_, rfl⟩, .inl ⟨_, rfl, hJ⟩⟩
end Go.Proofs.Ytfladcnkphcicaa
