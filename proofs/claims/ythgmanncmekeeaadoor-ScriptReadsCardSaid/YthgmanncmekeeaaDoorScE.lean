/- chapter 35: the iterator over the places of an event's numbers. -/
import Derived.Test.YthgmanncmekeeaaDoorScD
import Derived.RangeFuncFrom
import Derived.RangeFuncLeaves
import Derived.RangeFuncStops
import Derived.LoopNIn
import Derived.LoopIn
import Derived.OwnWalkIn
import Derived.TacticsInMore
namespace Go.Proofs.YthgmanncmekeeaaDoor
set_option linter.unusedVariables false
set_option linter.unusedSimpArgs false
open Go.ChangeShapes Go.WideShapes Go.ChangeAt Go.RowKit Go.Shelf
namespace Sc
theorem cell_of_block {W W' : World} {b j : Nat} (h : W'.heap[b]? = W.heap[b]?) : W'.cell? ⟨b, j, none⟩ = W.cell? ⟨b, j, none⟩ := by
  unfold World.cell?
  simp only [h]
def KpQ (q g : Nat) (W W' : World) : Prop := W'.heap[q]? = W.heap[q]? ∧ W'.heap[g]? = W.heap[g]? ∧ W.heap.size ≤ W'.heap.size
theorem KpQ.trans {q g : Nat} {A B C : World} (h : KpQ q g A B) (k : KpQ q g B C) : KpQ q g A C := ⟨k.1.trans h.1, k.2.1.trans h.2.1, Nat.le_trans h.2.2 k.2.2⟩
def pt0 (b : Nat) (p : Bool × Nat) : Option Addr := if p.1 = true then none else some ⟨b, p.2, none⟩
def pt1 (b : Nat) (p : Bool × Nat) : Option Addr := if p.1 = true then some ⟨b, p.2, none⟩ else none
theorem numV2_eq (b : Nat) (p : Bool × Nat) : numV2 b p = .agg #[.pointer (pt0 b p), .pointer (pt1 b p)] := by
  unfold numV2 pt0 pt1; split <;> rfl
theorem plC_eq (b : Nat) (p : Bool × Nat) : plC b p = [.pointer (pt0 b p), .pointer (pt1 b p)] := by
  unfold plC pt0 pt1; split <;> rfl
theorem plsC_get (b : Nat) : ∀ (ps : List (Bool × Nat)) (i : Nat) (p : Bool × Nat), ps[i]? = some p → (plsC b ps)[i * 2]? = some (.pointer (pt0 b p)) ∧ (plsC b ps)[i * 2 + 1]? = some (.pointer (pt1 b p)) := by
  intro ps
  induction ps with
  | nil => intro i p h; simp at h
  | cons a ps ih =>
    intro i p h
    have e : plsC b (a :: ps) = plC b a ++ plsC b ps := by unfold plsC; rw [List.flatMap_cons]
    rw [e, plC_eq]
    cases i with
    | zero => simp only [List.getElem?_cons_zero, Option.some.injEq] at h; subst h; exact ⟨rfl, rfl⟩
    | succ i =>
      rw [List.getElem?_cons_succ] at h
      obtain ⟨h1, h2⟩ := ih i p h
      rw [show (i + 1) * 2 = i * 2 + 2 by omega, show i * 2 + 2 + 1 = i * 2 + 1 + 2 by omega]
      exact ⟨h1, h2⟩
abbrev plAt (ps : List (Bool × Nat)) (x : Fin ps.length) : Bool × Nat := ps[x.1]'x.2
/-- The first k places. -/
def fstP (m k : Nat) : List (Fin m) := (List.finRange m).take k
theorem fstP_succ (m k : Nat) (h : k < m) : fstP m (k + 1) = fstP m k ++ [⟨k, h⟩] := by
  unfold fstP
  rw [List.take_add_one, List.getElem?_eq_getElem (by simpa using h)]
  simp
theorem fstP_len (m k : Nat) (h : k ≤ m) : (fstP m k).length = k := by unfold fstP; simp; omega
abbrev encN (b : Nat) (ps : List (Bool × Nat)) (x : Fin ps.length) : Array Value := #[numV2 b (plAt ps x)]
set_option maxHeartbeats 1000000 in
theorem numbers1_seq (n b q g cp : Nat) (ps : List (Bool × Nat)) (w0 : World) (hs : w0.cell? ⟨q, 0, none⟩ = some (.slice (some ⟨g, 0, none⟩) ps.length cp)) (hlen : ps.length ≤ 100) (hg1 : g < w0.heap.size) (hq1 : q < w0.heap.size)
    (hc : ∀ i p, ps[i]? = some p → w0.cell? ⟨g, i * 2, none⟩ = some (.pointer (pt0 b p)) ∧ w0.cell? ⟨g, i * 2 + 1, none⟩ = some (.pointer (pt1 b p))) :
    SeqStopsK Fence.wide (n + 1) Tryd.prog 33 #[.pointer (some ⟨q, 0, none⟩)] (encN b ps) (KpQ q g) (fun xs => xs = fstP ps.length ps.length) (fun pre => ∃ k, ∃ h : k < ps.length, pre = fstP ps.length k ++ [⟨k, h⟩]) ps.length w0 := by
  intro l J Jx W hB hAb hAx hY h0
  have hK0 : KpQ q g w0 W := ⟨hB.block q hq1, hB.block g hg1, hB.size⟩
  have HY := Lib.hid hY
  have HS := Lib.hid hs
  have HC := Lib.hid hc
  have HAb := Lib.hid hAb
  have cs0 : W.cell? ⟨q, 0, none⟩ = some (.slice (some ⟨g, 0, none⟩) ps.length cp) := (cell_of_block hK0.1).trans hs
  obtain ⟨N, hN⟩ : ∃ N, ps.length = N := ⟨_, rfl⟩
  have HN := Lib.hid hN
  clear hY hAb hAx hB hs hc
  refine callsIn_of_wp Tryd.func33 rfl trivial ?_ rfl
  simp only [Tryd.ntmps33, List.size_toArray, List.length_cons, List.length_nil, Nat.reduceAdd, Nat.reduceSub, Array.replicate_succ, Array.replicate_zero, List.push_toArray, List.append_toArray, List.nil_append, List.cons_append]
  gi_wp2
  clear cs0
  gi_loopw [7] (fun i wr => ∃ k : Nat, k ≤ ps.length ∧ i = .int .i64 k ∧ J (fstP ps.length k) wr ∧ KpQ q g w0 wr) (fun i _ => ps.length - (intOf i).toNat)
  case atStart => exact ⟨0, by omega, rfl, h0, hK0⟩
  case round =>
    obtain ⟨k, hk, rfl, hJ, hK⟩ := hrel
    by_cases hlt : k < ps.length
    · have hlt' : (k : Int) < (ps.length : Int) := by omega
      have HSS := Lib.hid (fstP_succ ps.length k hlt)
      have fin : ∀ W', J (fstP ps.length k ++ [⟨k, hlt⟩]) W' → KpQ q g w0 W' → ∃ k1 : Nat, k1 ≤ ps.length ∧ Value.int .i64 ((k : Int) + 1) = .int .i64 k1 ∧ J (fstP ps.length k1) W' ∧ KpQ q g w0 W' := fun W' h1 h2 => ⟨k + 1, by omega, by go_num, by rw [HSS.out]; exact h1, h2⟩
      have FIN := Lib.hid fin
      clear fin
      have al : ∀ o : Obj, KpQ q g w0 (wr.alloc o) := fun o => hK.trans ⟨Below.heap_alloc _ _ _ (Nat.lt_of_lt_of_le hq1 hK.2.2), Below.heap_alloc _ _ _ (Nat.lt_of_lt_of_le hg1 hK.2.2), by simp⟩
      have AL := Lib.hid al
      have jl : ∀ o : Obj, J (fstP ps.length k) (wr.alloc o) := fun o => HAb.out _ _ _ none hJ (World.grownBy_alloc wr o none) (fun r e => by cases e)
      clear al
      obtain ⟨q0, q1⟩ := HC.out k _ (List.getElem?_eq_getElem hlt)
      have d0 := (cell_of_block hK.2.1).trans q0
      have d1 := (cell_of_block hK.2.1).trans q1
      obtain ⟨fn, tmps, assign, body, hy, hR⟩ := HY.out _ (⟨k, hlt⟩ : Fin ps.length) _ (jl (.cells #[.pointer (pt0 b (plAt ps ⟨k, hlt⟩)), .pointer (pt1 b (plAt ps ⟨k, hlt⟩))] 66)) (by rw [fstP_len _ k hk]; exact hlt)
      (try dsimp only at hy)
      (try dsimp only at hR)
      rw [show encN b ps ⟨k, hlt⟩ = #[.agg #[.pointer (pt0 b (plAt ps ⟨k, hlt⟩)), .pointer (pt1 b (plAt ps ⟨k, hlt⟩))]] from by show #[_] = _; rw [numV2_eq]] at hy
      have HR := Lib.hid hR
      have hks := hK.2.2
      clear hR hJ hK jl q0 q1
      generalize pt0 b (plAt ps ⟨k, hlt⟩) = x0 at *
      generalize pt1 b (plAt ps ⟨k, hlt⟩) = x1 at *
      have hg3 : g < wr.heap.size := by omega
      have hq3 : q < wr.heap.size := by omega
      have i0 : (0 : Int) ≤ k := by omega
      have HLT := Lib.hid hlt
      gi_wp2
      refine HR.out.mono ?_
      rintro e W' (⟨rfl, hJ', hK'⟩ | ⟨rfl, hJx⟩)
      · gi_wp2
        go_roundw
        case rel => exact FIN.out _ hJ' ((AL.out _).trans hK')
        case measure => have := HLT.out; simp [intOf]; omega
      · gi_wp2
        first
          | refine bodyPost_ret (results_none rfl _ _ _) rfl ?_
          | go_end0
        exact ⟨⟨_, rfl⟩, .inr ⟨_, ⟨k, HLT.out, rfl⟩, hJx⟩⟩
    · obtain rfl : k = ps.length := by omega
      gi_wp2
      go_end0
      exact ⟨⟨_, rfl⟩, .inl ⟨_, rfl, hJ⟩⟩
end Sc
end Go.Proofs.YthgmanncmekeeaaDoor
