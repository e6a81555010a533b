/- cap.Encode: the iterator over a capability's fields. -/
import Derived.Test.YtoepbcaldlgnjaaDoorCapA
import Derived.Test.YtoepbcaldlgnjaaDoorCapL
import Derived.RangeFuncNested
import Derived.RangeFuncBound
import Derived.RangeFuncCalls
import Derived.RangeFuncLeaves
import Derived.RangeFuncFrom
import Derived.Shelf.Abstract
import Derived.Shelf.RegionOpen
import Derived.WalkKit
import Derived.OwnWalkIn
import Derived.TacticsInMore
import Derived.LoopNIn
import Derived.IntWalk
import Derived.Stop.RegionWithIn
import Derived.LoopIn
import Derived.LoopTactic
import Derived.Outline
namespace Go.Proofs.YtoepbcaldlgnjaaDoor
set_option linter.unusedVariables false
set_option linter.unusedSimpArgs false
open Go.ChangeShapes Go.WideShapes Go.ChangeAt Go.RowKit Go.Shelf
attribute [local go_sem] Oper.semAt_some

/-- The fields of a capability, in the table's order. -/
def capL (a b c d e f g h : Int) : List Int := [a, c, b, h, g, d, e, f]
theorem cap_bounds {a b c d e f g h : Int} (hd : 0 ≤ d) (hx : capB a b c d e f g h = true) : (0 ≤ a ∧ a ≤ 9) ∧ (0 ≤ c ∧ c ≤ 7) ∧ (0 ≤ b ∧ b ≤ 65535) ∧ (0 ≤ h ∧ h ≤ 511) ∧ (0 ≤ g ∧ g ≤ 16777215) ∧ (0 ≤ d ∧ d ≤ 16777215) ∧ (0 ≤ e ∧ e ≤ 4095) ∧ (0 ≤ f ∧ f ≤ 12) := by
  have hp : ∀ f : Nat, f ≤ 12 → 2 ^ f ≤ 4096 := by decide
  unfold capB at hx
  split at hx
  · simp at hx; omega
  · split at hx
    · simp [objB] at hx; omega
    · split at hx
      · simp [objB, guardB] at hx
        obtain ⟨⟨h1, h2⟩, h3⟩ := hx
        have := hp f.toNat (by omega)
        have h4 : e < (2 ^ f.toNat : Nat) := by have := h2.2.2.2; simpa using this
        omega
      · split at hx
        · simp [objB, placeB] at hx; omega
        · split at hx
          · simp [objB, mayB] at hx; omega
          · cases hx
theorem cell_of_block {W W' : World} {b j : Nat} (h : W'.heap[b]? = W.heap[b]?) : W'.cell? ⟨b, j, none⟩ = W.cell? ⟨b, j, none⟩ := by
  unfold World.cell?
  simp only [h]
abbrev u64V (x : Int) : Value := .int .u64 x
theorem fields_in (q : Nat) (a b c d e f g h : Int) (w : World) (ha : 0 ≤ a ∧ a ≤ 9) (hc : 0 ≤ c ∧ c ≤ 7) (hb : 0 ≤ b ∧ b ≤ 65535) (hh : 0 ≤ h ∧ h ≤ 511) (hg : 0 ≤ g ∧ g ≤ 16777215) (he : 0 ≤ e ∧ e ≤ 4095) (hf : 0 ≤ f ∧ f ≤ 12) :
    CallsIn Fence.wide q Tryd.prog 21 #[capV a b c d e f g h] w fun r w' => r = .returned (.func (.func 32) #[] #[.pointer (some ⟨w.heap.size + 1, 0, none⟩)]) ∧ w' = (w.alloc (.cells #[.int .i64 a, .int .i64 b, .int .i64 c, .int .u64 d, .int .i64 e, .int .i64 f, .int .i64 g, .int .i64 h] 24)).alloc (.cells ((capL a b c d e f g h).map u64V).toArray 53) := by
  obtain ⟨a0, a1⟩ := ha
  obtain ⟨c0, c1⟩ := hc
  obtain ⟨b0, b1⟩ := hb
  obtain ⟨h0, h1⟩ := hh
  obtain ⟨g0, g1⟩ := hg
  obtain ⟨e0, e1⟩ := he
  obtain ⟨f0, f1⟩ := hf
  refine callsIn_of_wp Tryd.func21 rfl trivial ?_ rfl
  simp only [Tryd.ntmps21, List.size_toArray, List.length_cons, List.length_nil, Nat.reduceAdd, Nat.reduceSub, Array.replicate_succ, Array.replicate_zero, List.push_toArray, List.append_toArray, List.nil_append, List.cons_append]
  gi_wp2
  go_ret
  exact ⟨rfl, rfl⟩
section
variable {P : Program} {F : Fence} {n : Nat} {ops : Array Oper} {rest : List Oper} {o : Oper} {a : Act} {w : World} {Q : Exit → Act → World → Prop}
/-- A load of a struct or an array whose cells are known, as one operation, in any round. -/
theorem wpListIn_load_list (hg : o.guard = none) (ty : TypeId) (x : Operand) (ho : o.op = .load ty x) (p : Addr) (hx : a.eval x = .pointer (some p)) (cs : List Value) (hc : ∀ j v, cs[j]? = some v → w.cell? (p.add j) = some v)
    (d : TypeDesc) (hu : P.underlying ty = some d) (hd : (match d with | .struct _ | .array _ _ => true | _ => false) = true) (hi : (P.info? ty).map (·.size) = some cs.length)
    (h : wpListIn F n P ops Q rest (a.put o.dst (.agg cs.toArray)) w) : wpListIn F n P ops Q (o :: rest) a w := by
  have hl : (loadCells p cs.length).run P w = .ok cs.toArray w := run_loadCells_list (P := P) w p cs hc
  have hrun : (loadVar ty p).run P w = .ok (.agg cs.toArray) w := by
    cases hq : P.info? ty with
    | none => simp [hq] at hi
    | some i =>
      have hs : i.size = cs.length := by simpa [hq] using hi
      have hagg : (isAgg ty).run P w = .ok true w := by
        unfold isAgg
        rw [Sem.run_bind, run_underlying hu w]
        cases d <;> simp_all
      simp [loadVar, Sem.run_bind, hagg, sizeOf, typeInfo, hq, hs, hl]
  refine wpListIn_plain hg fun K hK' => ?_
  unfold Oper.wpIn
  refine ⟨?_, ?_⟩
  · simp [Oper.about, ho]
  · rw [Oper.semAt_plain F _ _ (by rw [ho]; intro c hc'; cases hc')]
    simp only [execOp, ho, hx, Instr.loadAt, Instr.sureAddr, Sem.run_bind, Sem.run_pure, Result.andThen_ok, hrun]
    exact hK' _ _ h
end
theorem add_cells0 {w : World} {g : Nat} {cs : List Value} (h : ∀ j v, cs[j]? = some v → w.cell? ⟨g, j, none⟩ = some v) : ∀ j v, cs[j]? = some v → w.cell? ((⟨g, 0, none⟩ : Addr).add j) = some v := by
  intro j v hj
  have : ((⟨g, 0, none⟩ : Addr).add j) = ⟨g, j, none⟩ := by unfold Addr.add; split <;> simp_all
  rw [this]
  exact h j v hj
def layP (k : Nat) : Nat × Nat × Nat := layT.getD k (0, 0, 0)
def layL : List Value := layT.flatMap layV
theorem lay_cells {w : World} (h : LaidV_laid_seisin_cap_layout w) : ∀ j v, layL[j]? = some v → w.cell? ⟨0, j, none⟩ = some v := by
  have key : ∀ j, j < 24 → ∃ p, layT[j / 3]? = some p ∧ layL[j]? = (layV p)[j % 3]? := by
    intro j hj
    obtain rfl | rfl | rfl | rfl | rfl | rfl | rfl | rfl | rfl | rfl | rfl | rfl | rfl | rfl | rfl | rfl | rfl | rfl | rfl | rfl | rfl | rfl | rfl | rfl : j = 0 ∨ j = 1 ∨ j = 2 ∨ j = 3 ∨ j = 4 ∨ j = 5 ∨ j = 6 ∨ j = 7 ∨ j = 8 ∨ j = 9 ∨ j = 10 ∨ j = 11 ∨ j = 12 ∨ j = 13 ∨ j = 14 ∨ j = 15 ∨ j = 16 ∨ j = 17 ∨ j = 18 ∨ j = 19 ∨ j = 20 ∨ j = 21 ∨ j = 22 ∨ j = 23 := by omega
    all_goals exact ⟨_, rfl, rfl⟩
  intro j v hj
  have hj24 : j < 24 := by
    have h1 := (List.getElem?_eq_some_iff.1 hj).1
    have h2 : layL.length = 24 := by decide +kernel
    omega
  obtain ⟨p, h1, h2⟩ := key j hj24
  have := h.1 (j / 3) p h1 (j % 3) v (h2 ▸ hj)
  have e : j / 3 * 3 + j % 3 = j := by omega
  rwa [e] at this
theorem lay_at (k : Nat) (hk : k < 8) : ∀ w, (Instr.index 54 (.agg layL.toArray) (.int .i64 k)).run Tryd.prog w = .ok (.agg #[.int .i64 (layP k).1, .int .i64 (layP k).2.1, .int .i64 (layP k).2.2]) w := by
  obtain rfl | rfl | rfl | rfl | rfl | rfl | rfl | rfl : k = 0 ∨ k = 1 ∨ k = 2 ∨ k = 3 ∨ k = 4 ∨ k = 5 ∨ k = 6 ∨ k = 7 := by omega
  all_goals exact fun _ => by kernel_rfl
abbrev encF (V : Nat → Int) (x : Fin 8) : Array Value := #[.agg #[.int .i64 (layP x.1).1, .int .i64 (layP x.1).2.1, .int .i64 (layP x.1).2.2], .int .u64 (V x.1)]
def KpF (vb : Nat) (W W' : World) : Prop := W'.heap[vb]? = W.heap[vb]? ∧ W.heap.size ≤ W'.heap.size
theorem KpF.trans {vb : Nat} {A B C : World} (h : KpF vb A B) (k : KpF vb B C) : KpF vb A C := ⟨k.1.trans h.1, Nat.le_trans h.2 k.2⟩
def frs (l0 k : Nat) : List (Fin l0) := (List.finRange l0).take k
theorem frs_succ {l0 k : Nat} (h : k < l0) : frs l0 (k + 1) = frs l0 k ++ [⟨k, h⟩] := by
  unfold frs
  rw [List.take_add_one, List.getElem?_eq_getElem (by simpa using h)]
  simp
theorem frs_len {l0 k : Nat} (h : k ≤ l0) : (frs l0 k).length = k := by unfold frs; simp; omega
def TwoWays (A B : World → Prop) (t : Bool) (W : World) : Prop := (t = true → A W) ∧ (t = false → B W)
theorem two_ways {A B C : World → Prop} {e : Ending} {W : World} (h : (e = .returned (.bool true) ∧ A W ∧ B W) ∨ (e = .returned (.bool false) ∧ C W)) : ∃ t, e = .returned (.bool t) ∧ TwoWays (fun W => A W ∧ B W) C t W := by
  rcases h with ⟨h1, h2⟩ | ⟨h1, h2⟩
  · exact ⟨true, h1, fun _ => h2, fun e => by cases e⟩
  · exact ⟨false, h1, (fun e => by cases e), fun _ => h2⟩
set_option maxHeartbeats 1000000 in
theorem fields1_seq (q vb : Nat) (V : Nat → Int) (w0 : World) (hL : LaidV_laid_seisin_cap_layout w0) (hv : ∀ j, j < 8 → w0.cell? ⟨vb, j, none⟩ = some (.int .u64 (V j))) (hlt : vb < w0.heap.size) :
    SeqStopsK Fence.wide (q + 1) Tryd.prog 32 #[.pointer (some ⟨vb, 0, none⟩)] (encF V) (KpF vb) (fun xs => xs = frs 8 8) (fun pre => True) 8 w0 := by
  intro l J Jx W hB hAb hAx hY h0
  have hK0 : KpF vb w0 W := ⟨hB.block vb hlt, hB.size⟩
  have HY := Lib.hid hY
  have HAB := Lib.hid hAb
  have HV := Lib.hid hv
  have hLW := lay_cells (hL.call hB)
  have HLW := Lib.hid hLW
  clear hY hAb hAx hB hv hL hLW
  refine callsIn_of_wp Tryd.func32 rfl trivial ?_ rfl
  simp only [Tryd.ntmps32, List.size_toArray, List.length_cons, List.length_nil, Nat.reduceAdd, Nat.reduceSub, Array.replicate_succ, Array.replicate_zero, List.push_toArray, List.append_toArray, List.nil_append, List.cons_append]
  gi_wp2_with (first | (refine wpListIn_load_list rfl 54 (.global 0) rfl ⟨0, 0, none⟩ rfl layL (add_cells0 HLW.out) _ Tryd.underlying54 rfl (by kernel_rfl) ?_))
  gi_loopw [6] (fun i wr => ∃ k : Nat, k ≤ 8 ∧ i = .int .i64 k ∧ J (frs 8 k) wr ∧ KpF vb w0 wr) (fun i _ => 8 - (intOf i).toNat)
  case atStart => exact ⟨0, by omega, rfl, h0, hK0⟩
  case round =>
    obtain ⟨k, hk, rfl, hJ, hK⟩ := hrel
    by_cases hlt8 : k < 8
    · have hlt' : (k : Int) < 8 := by omega
      have c0 : wr.cell? ⟨vb, k, none⟩ = some (.int .u64 (V k)) := (cell_of_block hK.1).trans (HV.out k hlt8)
      have hix := lay_at k hlt8
      obtain ⟨⟨p1, p2, p3⟩, hp⟩ : ∃ p, layP k = p := ⟨_, rfl⟩
      rw [hp] at hix
      have HS := Lib.hid (frs_succ hlt8)
      have HP := Lib.hid hp
      obtain ⟨v, hvk⟩ : ∃ v, V k = v := ⟨_, rfl⟩
      rw [hvk] at c0
      have HVK := Lib.hid hvk
      have hvl : vb < wr.heap.size := Nat.lt_of_lt_of_le hlt hK.2
      clear hp hvk
      gi_wp2
      obtain ⟨w1, hw1⟩ : ∃ x, x = wr.alloc (.cells #[.int .i64 p1, .int .i64 p2, .int .i64 p3] 48) := ⟨_, rfl⟩
      rw [← hw1]
      have f0 : w1.cell? ⟨wr.heap.size, 0, none⟩ = some (.int .i64 p1) := by rw [hw1]; simp
      have f1 : w1.cell? ⟨wr.heap.size, 1, none⟩ = some (.int .i64 p2) := by rw [hw1]; simp
      have f2 : w1.cell? ⟨wr.heap.size, 2, none⟩ = some (.int .i64 p3) := by rw [hw1]; simp
      have hbw : Below wr.heap.size wr w1 := hw1 ▸ bal (Below.refl _ _) _
      have c1 : w1.cell? ⟨vb, k, none⟩ = some (.int .u64 v) := (hbw.cell (p := ⟨vb, k, none⟩) hvl).trans c0
      have hk1 : KpF vb wr w1.drew := ⟨hbw.block vb hvl, hbw.size⟩
      have hJ1 : J (frs 8 k) w1.drew := HAB.out _ wr w1.drew none hJ ⟨hbw.os, hbw.tape, hbw.output, hbw.size, fun j hj _ => hbw.block j hj⟩ (fun r e => by cases e)
      obtain ⟨fn, tmps, assign, body, hy, hR⟩ := HY.out _ (⟨k, hlt8⟩ : Fin 8) w1.drew hJ1 (by rw [frs_len hk]; omega)
      simp only [encF, HP.out, HVK.out] at hy
      have HR := Lib.hid hR
      clear hR c0 hw1 hbw hix
      gi_region_with (first | (refine (HR.out.mono fun e W' h => two_ways h).mono ?_; rintro e W' ⟨t, rfl, ht⟩))
      all_goals
        cases t
        · have hJx := ht.2 rfl
          gi_wp2
          first
            | refine bodyPost_ret (results_none rfl _ _ _) rfl ?_
            | go_end0
          exact ⟨⟨_, rfl⟩, .inr ⟨_, trivial, hJx⟩⟩
        · obtain ⟨hJ', hK'⟩ := ht.1 rfl
          gi_wp2
          go_roundw
          case rel => exact ⟨k + 1, by omega, by go_num, by rw [HS.out]; exact hJ', (hK.trans hk1).trans hK'⟩
          case measure => simp [intOf]; omega
    · obtain rfl : k = 8 := by omega
      gi_wp2
      go_end0
      exact ⟨⟨_, rfl⟩, .inl ⟨_, rfl, hJ⟩⟩
end Go.Proofs.YtoepbcaldlgnjaaDoor
