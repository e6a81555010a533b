/- package walk: the iterator over the levels. -/
import Derived.Test.YtgfidbjhihignaaWa1
namespace Go.Proofs.Ytgfidbjhihignaa
set_option linter.unusedVariables false
set_option linter.unusedSimpArgs false
open Go.ChangeShapes Go.WideShapes Go.ChangeAt Go.RowKit Go.Shelf
attribute [local go_sem] Oper.semAt_some
/-- The index of any page on a level from 1 to 3, or -1. -/
def idxV (p l : Int) : Int := if 0 ≤ p ∧ p < 512 then indexN p l else -1
theorem index_gen (p l : Int) (w : World) (h1 : 1 ≤ l) (h2 : l ≤ 3) :
    Calls Try.prog 47 #[.int .i64 p, .int .i64 l] w fun e w' => e = .returned (.int .i64 (idxV p l)) ∧ ∃ k, w' = w.drewN k := by
  unfold idxV
  split
  · rename_i h
    exact index_yes p l w h.1 h.2 h1 h2
  · exact index_no p l w (by omega)
abbrev encL (p : Int) (L : Nat) (x : Fin L) : Array Value := #[.int .i64 ((x.1 : Int) + 1), .int .i64 (idxV p ((x.1 : Int) + 1))]
def frs (l0 k : Nat) : List (Fin l0) := (List.finRange l0).take k
theorem frs_succ {l0 k : Nat} (h : k < l0) : frs l0 (k + 1) = frs l0 k ++ [⟨k, h⟩] := by
  unfold frs
  rw [List.take_add_one, List.getElem?_eq_getElem (by simpa using h)]
  simp
theorem frs_len {l0 k : Nat} (h : k ≤ l0) : (frs l0 k).length = k := by unfold frs; simp; omega
theorem grown_drewN (w : World) (r : Nat) : w.grownBy (w.drewN r) none := by
  induction r with
  | zero => exact ⟨rfl, rfl, rfl, Nat.le_refl _, fun _ _ _ => rfl⟩
  | succ k ih => exact ⟨ih.os, ih.tape, ih.output, ih.size, ih.block⟩
theorem heap_putObj_ne {W : World} {k b : Nat} {o : Obj} (h : k ≠ b) : (W.putObj b o).heap[k]? = W.heap[k]? := by
  simp [World.putObj, Array.getElem?_setIfInBounds, h.symm]
theorem KeepsOthers.step_drew {A W : World} (h : KeepsOthers A W) : KeepsOthers A W.drew := ⟨h.size, h.same⟩
theorem KeepsOthers.step_set {A W : World} (h : KeepsOthers A W) (a : Addr) (v : Value) : KeepsOthers A (W.setCell a v) := h.trans (KeepsOthers.setCell _ _ _)
theorem KeepsOthers.step_below {A W X : World} (h : KeepsOthers A W) (k : Below W.heap.size W X) : KeepsOthers A X := ⟨Nat.le_trans h.size k.size, fun i o hi ho => (k.block i (Array.getElem?_eq_some_iff.1 (h.same i o hi ho)).1).trans (h.same i o hi ho)⟩
/-- What the iterator finds again: its two boxes. -/
def KpL (p a : Nat) (W W' : World) : Prop := W'.heap[p]? = W.heap[p]? ∧ W'.heap[a]? = W.heap[a]? ∧ W.heap.size ≤ W'.heap.size
theorem KpL.trans {b Bn : Nat} {A B C : World} (h : KpL b Bn A B) (k : KpL b Bn B C) : KpL b Bn A C := ⟨k.1.trans h.1, k.2.1.trans h.2.1, Nat.le_trans h.2.2 k.2.2⟩
theorem levels_in (n : Nat) (p l : Int) (w : World) :
    CallsIn Fence.wide n Try.prog 71 #[.int .i64 p, .int .i64 l] w fun e w' => e = .returned (.func (.func 76) #[] #[.pointer (some ⟨w.heap.size + 1, 0, none⟩), .pointer (some ⟨w.heap.size, 0, none⟩)]) ∧ w' = (w.alloc (.cells #[.int .i64 p] 3)).alloc (.cells #[.int .i64 l] 3) := by
  refine callsIn_of_wp Try.func71 rfl trivial ?_ rfl
  simp only [Try.ntmps71, List.size_toArray, List.length_cons, List.length_nil, Nat.reduceAdd, Nat.reduceSub, Array.replicate_succ, Array.replicate_zero, List.push_toArray, List.append_toArray, List.nil_append, List.cons_append]
  gi_wp2
  go_ret
  exact ⟨rfl, rfl⟩
set_option maxHeartbeats 1000000 in
theorem levels1_seq (n p a L : Nat) (pg : Int) (hL : L ≤ 3) (w0 : World) (hp : w0.cell? ⟨p, 0, none⟩ = some (.int .i64 pg)) (ha : w0.cell? ⟨a, 0, none⟩ = some (.int .i64 L)) (hp1 : p < w0.heap.size) (ha1 : a < w0.heap.size) :
    SeqStopsK Fence.wide (n + 1) Try.prog 76 #[.pointer (some ⟨a, 0, none⟩), .pointer (some ⟨p, 0, none⟩)] (encL pg L) (KpL p a) (fun xs => xs = frs L L) (fun pre => ∃ k, ∃ h : k < L, pre = frs L k ++ [⟨k, h⟩]) 3 w0 := by
  intro l J Jx W hB hAb hAx hY h0
  have hK0 : KpL p a w0 W := ⟨hB.block p hp1, hB.block a ha1, hB.size⟩
  have HY := Lib.hid hY
  have HAB := Lib.hid hAb
  have HP := Lib.hid hp
  have HA := Lib.hid ha
  have HL := Lib.hid hL
  clear hY hAb hAx hB hp ha
  refine callsIn_of_wp Try.func76 rfl trivial ?_ rfl
  simp only [Try.ntmps76, List.size_toArray, List.length_cons, List.length_nil, Nat.reduceAdd, Nat.reduceSub, Array.replicate_succ, Array.replicate_zero, List.push_toArray, List.append_toArray, List.nil_append, List.cons_append]
  gi_wp2
  gi_loopw [4] (fun i wr => ∃ k : Nat, k ≤ L ∧ i = .int .i64 ((k : Int) + 1) ∧ J (frs L k) wr ∧ KpL p a w0 wr ∧ W.heap.size ≤ wr.heap.size) (fun i _ => L + 1 - (intOf i).toNat)
  case atStart => exact ⟨0, by omega, rfl, h0, hK0, Nat.le_refl _⟩
  case round =>
    obtain ⟨k, hk, rfl, hJ, hK, hsw⟩ := hrel
    have hbp : wr.cell? ⟨p, 0, none⟩ = some (.int .i64 pg) := (cell_of_block hK.1).trans HP.out
    have hba : wr.cell? ⟨a, 0, none⟩ = some (.int .i64 L) := (cell_of_block hK.2.1).trans HA.out
    by_cases hlt : k < L
    · have hlt' : (k : Int) + 1 ≤ L := by omega
      have hk3 : (k : Int) + 1 ≤ 3 := by omega
      have hs := frs_succ hlt
      have HS := Lib.hid hs
      clear hs
      have hyd : ∀ q, Hid (YieldAt Fence.wide n Try.prog l (encL pg L ⟨k, hlt⟩) (wr.drewN q) fun e W' => (e = .returned (.bool true) ∧ J (frs L k ++ [⟨k, hlt⟩]) W' ∧ KpL p a (wr.drewN q) W') ∨ (e = .returned (.bool false) ∧ Jx (frs L k ++ [⟨k, hlt⟩]) W')) := fun q => Lib.hid (HY.out _ (⟨k, hlt⟩ : Fin L) (wr.drewN q) (HAB.out _ wr (wr.drewN q) none hJ (grown_drewN wr q) (fun r e => by cases e)) (by rw [frs_len hk]; omega))
      gi_wp2_with (refine ⟨trivial, ?_⟩; gi_at_call 47; refine (callsIn_wide.2 (index_gen pg ((k : Int) + 1) _ (by omega) (by omega))).mono ?_; rintro e w1 ⟨rfl, q, rfl⟩; obtain ⟨fn, tmps, assign, body, hy, hR⟩ := (hyd q).out; (try dsimp only at hy); have HR := Lib.hid hR; clear hR)
      refine HR.out.mono ?_
      rintro e W' (⟨rfl, hJ', hK'⟩ | ⟨rfl, hJx⟩)
      · gi_wp2
        go_roundw
        case rel => exact ⟨k + 1, by omega, by go_num, by rw [HS.out]; exact hJ', hK.trans ⟨by rw [hK'.1, World.heap_drewN], by rw [hK'.2.1, World.heap_drewN], by have := hK'.2.2; rwa [World.heap_drewN] at this⟩, by have := hK'.2.2; rw [World.heap_drewN] at this; omega⟩
        case measure => simp [intOf]; omega
      · gi_wp2
        first
          | refine bodyPost_ret (results_none rfl _ _ _) rfl ?_
          | go_end0
        exact ⟨⟨_, rfl⟩, .inr ⟨_, ⟨k, hlt, rfl⟩, hJx⟩⟩
    · obtain rfl : k = L := by omega
      gi_wp2
      go_end0
      exact ⟨⟨_, rfl⟩, .inl ⟨_, rfl, hJ⟩⟩
end Go.Proofs.Ytgfidbjhihignaa
