/- package queue: the iterator falling; of nil. -/
import Derived.Test.YthbjjamjpbfehaaLink
import Derived.LoopIn
import Derived.LoopTactic
import Derived.Outline
import Derived.Test.YthbjjamjpbfehaaCells
import Derived.Stop.RegionWithIn
import Derived.Maps.Own
import Derived.Maps.OwnIn
import Derived.Maps.OwnSet
import Derived.Maps.OwnOps
namespace Go.Proofs.Ythbjjamjpbfehaa
set_option linter.unusedVariables false
set_option linter.unusedSimpArgs false
open Go.ChangeShapes Go.WideShapes Go.ChangeAt Go.RowKit Go.Shelf
attribute [local go_sem] Oper.semAt_some

/-- The first k priorities, from the highest on. -/
def fallTo : Nat → List (Fin 8)
  | 0 => []
  | k + 1 => fallTo k ++ [⟨7 - k, by omega⟩]
theorem fall_len : ∀ k, (fallTo k).length = k
  | 0 => rfl
  | k + 1 => by simp [fallTo, fall_len k]
/-- What the iterator finds again: the queue's block, and its own box. -/
def KpQ (b Bn : Nat) (W W' : World) : Prop := W'.heap[b]? = W.heap[b]? ∧ W'.heap[Bn]? = W.heap[Bn]? ∧ W.heap.size ≤ W'.heap.size
theorem KpQ.trans {b Bn : Nat} {A B C : World} (h : KpQ b Bn A B) (k : KpQ b Bn B C) : KpQ b Bn A C := ⟨k.1.trans h.1, k.2.1.trans h.2.1, Nat.le_trans h.2.2 k.2.2⟩
abbrev encQ (vs : Nat → Value) (x : Fin 8) : Array Value := #[vs x.1]
theorem falling_in (n : Nat) (p : Option Addr) (w : World) :
    CallsIn Fence.wide n Try.prog 27 #[.pointer p] w fun e w' => e = .returned (.func (.func 28) #[] #[.pointer (some ⟨w.heap.size, 0, none⟩)]) ∧ w' = w.alloc (.cells #[.pointer p] 24) := by
  refine callsIn_of_wp Try.func27 rfl trivial ?_ rfl
  simp only [Try.ntmps27, List.size_toArray, List.length_cons, List.length_nil, Nat.reduceAdd, Nat.reduceSub, Array.replicate_succ, Array.replicate_zero, List.push_toArray, List.append_toArray, List.nil_append, List.cons_append]
  gi_wp2
  go_ret
  exact ⟨rfl, rfl⟩
theorem falling1_nil (n : Nat) (l Bn : Nat) (w : World) (hc : w.cell? ⟨Bn, 0, none⟩ = some (.pointer none)) :
    CallsIn Fence.wide n Try.prog 28 (#[.func (.yield l) #[] #[]] ++ #[.pointer (some ⟨Bn, 0, none⟩)]) w fun e w' => (∃ v, e = .returned v) ∧ w' = w := by
  refine callsIn_of_wp Try.func28 rfl trivial ?_ rfl
  simp only [Try.ntmps28, List.size_toArray, List.length_cons, List.length_nil, Nat.reduceAdd, Nat.reduceSub, Array.replicate_succ, Array.replicate_zero, List.push_toArray, List.append_toArray, List.nil_append, List.cons_append]
  gi_wp2
  refine bodyPost_ret (results_none rfl _ _ _) rfl ⟨⟨_, rfl⟩, rfl⟩
theorem cell_of_block {W W' : World} {b j : Nat} (h : W'.heap[b]? = W.heap[b]?) : W'.cell? ⟨b, j, none⟩ = W.cell? ⟨b, j, none⟩ := by
  unfold World.cell?
  simp only [h]
theorem frozen_of_block {W W' : World} {b j : Nat} (h : W'.heap[b]? = W.heap[b]?) : W'.frozen? ⟨b, j, none⟩ = W.frozen? ⟨b, j, none⟩ := by
  unfold World.frozen?
  simp only [h]
/-- The eight lists' cells. -/
structure ListsAt (W : World) (b : Nat) (vs : Nat → Value) : Prop where
  lt : b < W.heap.size
  cell : ∀ k, k < 8 → W.cell? ⟨b, k, none⟩ = some (vs k)
theorem ListsAt.of_block {W W' : World} {b : Nat} {vs : Nat → Value} (h : ListsAt W b vs) (sz : W.heap.size ≤ W'.heap.size) (e : W'.heap[b]? = W.heap[b]?) : ListsAt W' b vs :=
  ⟨Nat.lt_of_lt_of_le h.lt sz, fun k hk => (cell_of_block e).trans (h.cell k hk)⟩
set_option maxHeartbeats 1000000 in
theorem falling1_seq (n b Bn : Nat) (vs : Nat → Value) (w0 : World) (hA : ListsAt w0 b vs) (hn : w0.cell? ⟨Bn, 0, none⟩ = some (.pointer (some ⟨b, 0, none⟩))) (hlt : Bn < w0.heap.size) :
    SeqStopsK Fence.wide (n + 1) Try.prog 28 #[.pointer (some ⟨Bn, 0, none⟩)] (encQ vs) (KpQ b Bn) (fun xs => xs = fallTo 8) (fun pre => ∃ k, k < 8 ∧ pre = fallTo (k + 1)) 8 w0 := by
  intro l J Jx W hB hAb hAx hY h0
  have hK0 : KpQ b Bn w0 W := ⟨hB.block b hA.lt, hB.block Bn hlt, hB.size⟩
  have HY := Lib.hid hY
  have HA := Lib.hid hA
  have HN := Lib.hid hn
  clear hY hAb hAx hB hA hn
  refine callsIn_of_wp Try.func28 rfl trivial ?_ rfl
  simp only [Try.ntmps28, List.size_toArray, List.length_cons, List.length_nil, Nat.reduceAdd, Nat.reduceSub, Array.replicate_succ, Array.replicate_zero, List.push_toArray, List.append_toArray, List.nil_append, List.cons_append]
  have hbn : W.cell? ⟨Bn, 0, none⟩ = some (.pointer (some ⟨b, 0, none⟩)) := (cell_of_block hK0.2.1).trans HN.out
  gi_wp2
  clear hbn
  gi_loopw [3] (fun i wr => ((∃ k m : Nat, k + m = 7 ∧ i = .int .i64 m ∧ J (fallTo k) wr) ∨ (i = .int .i64 (-1) ∧ J (fallTo 8) wr)) ∧ KpQ b Bn w0 wr) (fun i _ => (intOf i + 1).toNat)
  case atStart => exact ⟨.inl ⟨0, 7, rfl, rfl, h0⟩, hK0⟩
  case round =>
    obtain ⟨⟨k, m, hkm, rfl, hJ⟩ | ⟨rfl, hJ⟩, hK⟩ := hrel
    · have hbn : wr.cell? ⟨Bn, 0, none⟩ = some (.pointer (some ⟨b, 0, none⟩)) := (cell_of_block hK.2.1).trans HN.out
      have c0 := (HA.out.of_block hK.2.2 hK.1).cell m (by omega)
      have hs : fallTo (k + 1) = fallTo k ++ [⟨m, by omega⟩] := by
        show fallTo k ++ [⟨7 - k, by omega⟩] = _
        congr 2
        apply Fin.ext
        simp only
        omega
      have HS := Lib.hid hs
      have hm0 : (0 : Int) ≤ m := by omega
      have hm8 : (m : Int) < 8 := by omega
      obtain ⟨fn, tmps, assign, body, hy, hR⟩ := HY.out _ (⟨m, by omega⟩ : Fin 8) wr hJ (by rw [fall_len]; omega)
      (try dsimp only at hy)
      have HR := Lib.hid hR
      clear hR hs
      gi_wp2
      refine HR.out.mono ?_
      rintro e W' (⟨rfl, hJ', hK'⟩ | ⟨rfl, hJx⟩)
      · gi_wp2
        go_roundw
        case rel =>
          refine ⟨?_, hK.trans hK'⟩
          rw [← HS.out] at hJ'
          rcases Nat.eq_zero_or_pos m with rfl | hm
          · refine .inr ⟨rfl, ?_⟩
            obtain rfl : k = 7 := by omega
            exact hJ'
          · exact .inl ⟨k + 1, m - 1, by omega, by go_num, hJ'⟩
        case measure => first | (simp [intOf]; done) | (simp [intOf]; omega)
      · gi_wp2
        first
          | refine bodyPost_ret (results_none rfl _ _ _) rfl ?_
          | go_end0
        exact ⟨⟨_, rfl⟩, .inr ⟨_, ⟨k, by omega, HS.out.symm⟩, hJx⟩⟩
    · gi_wp2
      go_end0
      exact ⟨⟨_, rfl⟩, .inl ⟨_, rfl, hJ⟩⟩
end Go.Proofs.Ythbjjamjpbfehaa
