/- The slots of nodes: the iterator over what a node holds. -/
import Derived.Test.YtplanbihejodoaaDoorSlo5
import Derived.Test.YtplanbihejodoaaDoorLink
import Derived.RangeFuncNested
import Derived.RangeFuncBound
import Derived.RangeFuncCalls
import Derived.RangeFuncLeaves
import Derived.RangeFuncFrom
import Derived.RangeFuncWrites
import Derived.RangeFuncBox
import Derived.OwnWalkIn
import Derived.TacticsInMore
import Derived.LoopNIn
import Derived.LoopIn
import Derived.Stop.RegionWithIn
namespace Go.Proofs.YtplanbihejodoaaDoor
set_option linter.unusedVariables false
set_option linter.unusedSimpArgs false
open Go.ChangeShapes Go.WideShapes Go.ChangeAt Go.RowKit Go.Shelf
attribute [local go_sem] Oper.semAt_some

def KpH (cb nb m : Nat) (W W' : World) : Prop := W'.heap[cb]? = W.heap[cb]? ∧ W'.heap[nb]? = W.heap[nb]? ∧ W'.heap[m]? = W.heap[m]? ∧ W.heap.size ≤ W'.heap.size
theorem KpH.trans {cb nb m : Nat} {A B C : World} (h : KpH cb nb m A B) (k : KpH cb nb m B C) : KpH cb nb m A C := ⟨k.1.trans h.1, k.2.1.trans h.2.1, k.2.2.1.trans h.2.2.1, Nat.le_trans h.2.2.2 k.2.2.2⟩
theorem cell_of_block {W W' : World} {b j : Nat} (h : W'.heap[b]? = W.heap[b]?) : W'.cell? ⟨b, j, none⟩ = W.cell? ⟨b, j, none⟩ := by
  unfold World.cell?
  simp only [h]
abbrev heldV : Value := .agg #[.int .i64 7, .int .i64 1, .int .i64 8, .int .i64 3, .int .i64 7, .int .u64 0, .int .i64 0, .int .i64 0, .int .i64 0, .int .i64 0]
abbrev encH (x : Fin 1) : Array Value := #[heldV]
theorem two_ways {A B C : World → Prop} {e : Ending} {W : World} (h : (e = .returned (.bool true) ∧ A W ∧ B W) ∨ (e = .returned (.bool false) ∧ C W)) : ∃ t, e = .returned (.bool t) ∧ (t = true → A W ∧ B W) ∧ (t = false → C W) := by
  rcases h with ⟨h1, h2⟩ | ⟨h1, h2⟩
  · exact ⟨true, h1, fun _ => h2, fun e => (by cases e)⟩
  · exact ⟨false, h1, fun e => (by cases e), fun _ => h2⟩
set_option maxRecDepth 100000 in
set_option maxHeartbeats 1000000 in
theorem held1_seq (q cb nb m : Nat) (w0 : World) (hm : w0.heap[m]? = some (.cells (caps2 8 3 7) 34 (0, 0))) (hc : w0.cell? ⟨cb, 0, none⟩ = some (sl2 m)) (hn : w0.cell? ⟨nb, 0, none⟩ = some (.int .i64 7)) (lc : cb < w0.heap.size) (ln : nb < w0.heap.size) :
    SeqStopsK Fence.wide (q + 1) Tryd.prog 40 #[.pointer (some ⟨cb, 0, none⟩), .pointer (some ⟨nb, 0, none⟩)] encH (KpH cb nb m) (fun xs => xs = [0]) (fun pre => True) 1 w0 := by
  intro l J Jx W hB hAb hAx hY h0
  have lm : m < w0.heap.size := (Array.getElem?_eq_some_iff.1 hm).1
  have hK0 : KpH cb nb m w0 W := ⟨hB.block cb lc, hB.block nb ln, hB.block m lm, hB.size⟩
  have HY := Lib.hid hY
  have HAB := Lib.hid hAb
  have HM := Lib.hid hm
  have HC := Lib.hid hc
  have HN := Lib.hid hn
  clear hY hAb hAx hB hm hc hn
  refine callsIn_of_wp Tryd.func40 rfl trivial ?_ rfl
  simp only [Tryd.ntmps40, List.size_toArray, List.length_cons, List.length_nil, Nat.reduceAdd, Nat.reduceSub, Array.replicate_succ, Array.replicate_zero, List.push_toArray, List.append_toArray, List.nil_append, List.cons_append]
  have hbc : W.cell? ⟨cb, 0, none⟩ = some (sl2 m) := (cell_of_block hK0.1).trans HC.out
  gi_wp2
  clear hbc
  gi_loopw [4, 5, 8] (fun i c x wr => ∃ k : Nat, k ≤ 2 ∧ x = .int .i64 k ∧ (k ≤ 1 → J [] wr) ∧ (k = 2 → J [0] wr) ∧ KpH cb nb m w0 wr) (fun i c x _ => 2 - (intOf x).toNat)
  case atStart => exact ⟨0, by omega, rfl, fun _ => h0, fun e => (by cases e), hK0⟩
  case round =>
    obtain ⟨k, hk, rfl, hJ0, hJ2, hK⟩ := hrel
    have hmr := hK.2.2.1.trans HM.out
    have HK := Lib.hid hK
    have lmr : m < wr.heap.size := (Array.getElem?_eq_some_iff.1 hmr).1
    have lcr : cb < wr.heap.size := Nat.lt_of_lt_of_le lc hK.2.2.2
    have lnr : nb < wr.heap.size := Nat.lt_of_lt_of_le ln hK.2.2.2
    have bn : wr.cell? ⟨nb, 0, none⟩ = some (.int .i64 7) := (cell_of_block hK.2.1).trans HN.out
    have hka : ∀ o, KpH cb nb m wr (wr.alloc o) := fun o => ⟨Below.heap_alloc _ _ _ lcr, Below.heap_alloc _ _ _ lnr, Below.heap_alloc _ _ _ lmr, by simp⟩
    have HKA := Lib.hid hka
    have hja : ∀ o s, J s wr → J s (wr.alloc o) := fun o s h => HAB.out s wr _ none h (World.grownBy_alloc wr o none) (fun r e => by cases e)
    have HJA := Lib.hid hja
    clear hK hka hja
    rcases (by omega : k = 0 ∨ k = 1 ∨ k = 2) with rfl | rfl | rfl
    · have HJ := Lib.hid (hJ0 (by omega))
      clear hJ0 hJ2
      have z0 : wr.cell? ⟨m, 0, none⟩ = some (.int .i64 0) := cell_of_row _ _ 0 _ _ _ hmr
      have z1 : wr.cell? ⟨m, 1, none⟩ = some (.int .i64 0) := cell_of_row _ _ 1 _ _ _ hmr
      have z2 : wr.cell? ⟨m, 2, none⟩ = some (.int .i64 0) := cell_of_row _ _ 2 _ _ _ hmr
      have z3 : wr.cell? ⟨m, 3, none⟩ = some (.int .u64 0) := cell_of_row _ _ 3 _ _ _ hmr
      have z4 : wr.cell? ⟨m, 4, none⟩ = some (.int .i64 0) := cell_of_row _ _ 4 _ _ _ hmr
      have z5 : wr.cell? ⟨m, 5, none⟩ = some (.int .i64 0) := cell_of_row _ _ 5 _ _ _ hmr
      have z6 : wr.cell? ⟨m, 6, none⟩ = some (.int .i64 0) := cell_of_row _ _ 6 _ _ _ hmr
      have z7 : wr.cell? ⟨m, 7, none⟩ = some (.int .i64 0) := cell_of_row _ _ 7 _ _ _ hmr
      clear hmr
      gi_wp2
      refine ⟨fun _ h => (by cases h), ?_⟩
      gi_wp2
      go_roundw
      case rel => exact ⟨1, by omega, by go_num, fun _ => HJA.out _ _ HJ.out, fun e => (by cases e), HK.out.trans (HKA.out _)⟩
      case measure => simp [intOf]
    · have HJ := Lib.hid (hJ0 (by omega))
      clear hJ0 hJ2
      have z0 : wr.cell? ⟨m, 8, none⟩ = some (.int .i64 8) := cell_of_row _ _ 8 _ _ _ hmr
      have z1 : wr.cell? ⟨m, 9, none⟩ = some (.int .i64 3) := cell_of_row _ _ 9 _ _ _ hmr
      have z2 : wr.cell? ⟨m, 10, none⟩ = some (.int .i64 7) := cell_of_row _ _ 10 _ _ _ hmr
      have z3 : wr.cell? ⟨m, 11, none⟩ = some (.int .u64 0) := cell_of_row _ _ 11 _ _ _ hmr
      have z4 : wr.cell? ⟨m, 12, none⟩ = some (.int .i64 0) := cell_of_row _ _ 12 _ _ _ hmr
      have z5 : wr.cell? ⟨m, 13, none⟩ = some (.int .i64 0) := cell_of_row _ _ 13 _ _ _ hmr
      have z6 : wr.cell? ⟨m, 14, none⟩ = some (.int .i64 0) := cell_of_row _ _ 14 _ _ _ hmr
      have z7 : wr.cell? ⟨m, 15, none⟩ = some (.int .i64 0) := cell_of_row _ _ 15 _ _ _ hmr
      clear hmr
      obtain ⟨fn, tmps, assign, body, hy, hR⟩ := HY.out _ (0 : Fin 1) (wr.alloc (.cells #[.int .i64 8, .int .i64 3, .int .i64 7, .int .u64 0, .int .i64 0, .int .i64 0, .int .i64 0, .int .i64 0] 34)) (HJA.out _ _ HJ.out) (by simp)
      (try dsimp only at hy)
      have HR := Lib.hid hR
      clear hR
      gi_wp2
      refine (HR.out.mono fun e W' h => two_ways h).mono ?_
      rintro e W' ⟨t, rfl, ht⟩
      cases t
      · have hJx := ht.2 rfl
        gi_wp2
        first
          | refine bodyPost_ret (results_none rfl _ _ _) rfl ?_
          | go_end0
        exact ⟨⟨_, rfl⟩, .inr ⟨_, trivial, hJx⟩⟩
      · obtain ⟨hJ', hK'⟩ := ht.1 rfl
        gi_wp2
        go_roundw
        case rel => exact ⟨2, by omega, by go_num, fun e => (by omega), fun _ => hJ', (HK.out.trans (HKA.out _)).trans hK'⟩
        case measure => simp [intOf]
    · have HJ := Lib.hid (hJ2 rfl)
      clear hJ0 hJ2 hmr
      gi_wp2
      go_end0
      exact ⟨⟨_, rfl⟩, .inl ⟨_, rfl, HJ.out⟩⟩
theorem held_in (n : Nat) (m : Nat) (w : World) :
    CallsIn Fence.wide n Tryd.prog 28 #[.int .i64 7, sl2 m] w fun e w' => e = .returned (.func (.func 40) #[] #[.pointer (some ⟨w.heap.size + 1, 0, none⟩), .pointer (some ⟨w.heap.size, 0, none⟩)]) ∧ w' = (w.alloc (.cells #[.int .i64 7] 3)).alloc (.cells #[sl2 m] 65) := by
  refine callsIn_of_wp Tryd.func28 rfl trivial ?_ rfl
  simp only [Tryd.ntmps28, List.size_toArray, List.length_cons, List.length_nil, Nat.reduceAdd, Nat.reduceSub, Array.replicate_succ, Array.replicate_zero, List.push_toArray, List.append_toArray, List.nil_append, List.cons_append]
  gi_wp2
  go_ret
  exact ⟨rfl, rfl⟩
end Go.Proofs.YtplanbihejodoaaDoor
