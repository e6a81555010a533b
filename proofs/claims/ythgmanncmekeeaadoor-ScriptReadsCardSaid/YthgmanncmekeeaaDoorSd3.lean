/- chapter 35: rows of events compared, and written over. -/
import Derived.Test.YthgmanncmekeeaaDoorSd2
import Derived.BigQuiet
import Derived.Maps.AppendAt
import Derived.Deep.MidRow
import Derived.ChangeKeysEq
namespace Go.Proofs.YthgmanncmekeeaaDoor
set_option linter.unusedVariables false
set_option linter.unusedSimpArgs false
open Go.ChangeShapes Go.WideShapes Go.ChangeAt Go.RowKit Go.Shelf
namespace Sc
def evT (c : Ev) : List Value := (evA c).toList
theorem eq6 (a b c d e f : Int) (w : World) : (Op.equalIn 9998 32 (.agg #[.int .u64 a, .int .u64 b, .int .u64 c, .int .u64 d, .int .u64 e, .int .u64 f]) (.agg #[.int .u64 a, .int .u64 b, .int .u64 c, .int .u64 d, .int .u64 e, .int .u64 f])).run Tryd.prog w = .ok true w := by
  obtain ⟨i, hi⟩ : ∃ i, Tryd.prog.info? 31 = some i := Option.isSome_iff_exists.1 (by kernel_rfl)
  have hc : Tryd.prog.cellsOf 31 = 1 := by kernel_rfl
  rw [run_equalIn_array (P := Tryd.prog) w 9997 _ _ Tryd.underlying32 hi]
  simp [Op.eqItems, hc, go_sem, List.range, List.range.loop]
section
attribute [local go_sem] eq6
set_option maxHeartbeats 1000000 in
theorem eqEv (c : Ev) (w : World) : (binOp .eql 36 (.agg (evA c)) (.agg (evA c))).run Tryd.prog w = .ok (.bool true) w := by
  unfold evA
  go_simp
end
theorem neq_of_eqlE (t : TypeId) (xs ys : Array Value) (w : World) (b : Bool) (hg : Tryd.prog.eqGuardType 10000 t = false) (h : (binOp .eql t (.agg xs) (.agg ys)).run Tryd.prog w = .ok (.bool b) w) : (binOp .neq t (.agg xs) (.agg ys)).run Tryd.prog w = .ok (.bool (!b)) w := by
  rw [run_eql_struct] at h
  rw [run_neq_struct]
  cases hr : (Op.equalIn 10000 t (.agg xs) (.agg ys)).run Tryd.prog w with
  | ok r w1 =>
    rw [hr] at h
    simp only [Result.andThen_ok] at h ⊢
    cases h
    rfl
  | halt c w1 =>
    rw [hr] at h
    cases h
theorem neEv (c : Ev) (w : World) : (binOp .neq 36 (.agg (evA c)) (.agg (evA c))).run Tryd.prog w = .ok (.bool false) w := neq_of_eqlE _ _ _ w true (by kernel_rfl) (eqEv c w)
/-- A row of events in the middle of a block. -/
def EvM (w : World) (p : Option Addr) (L : List Ev) : Prop := ∀ (k : Nat) (c : Ev), L[k]? = some c → ∃ g o, p = some ⟨g, o, none⟩ ∧ g < w.heap.size ∧ w.rangeAt g (o + k * 15) (evT c)
theorem EvM.call {w w' : World} {p : Option Addr} {L : List Ev} (h : EvM w p L) (hb : Below w.heap.size w w') : EvM w' p L := fun k c hc => by
  obtain ⟨g, o, h1, h2, h3⟩ := h k c hc
  exact ⟨g, o, h1, Nat.lt_of_lt_of_le h2 hb.size, fun j u hj => (World.cell?_of_block (hb.block g h2)).trans (h3 j u hj)⟩
theorem EvM.own {w : World} {B n cap : Nat} {p : Option Addr} {L : List Ev} (h : w.ownsRow B 36 15 (.slice p n cap) L.length (evsC L)) : EvM w p L := fun k c hc => by
  have hlt := h.lt
  have hcs := fun g hg => h.cells (g := g) hg
  have hkl : k < L.length := (List.getElem?_eq_some_iff.1 hc).1
  obtain ⟨hl, e | ⟨g, cap, cur, e1, hg, hblk, h1, h2, h3, h4⟩⟩ := h
  · omega
  · cases e1
    refine ⟨g, 0, rfl, (hlt g rfl).2, fun j u hu => ?_⟩
    have := hcs g rfl _ _ (evsC_get L k c j u hc hu)
    rw [addr_add] at this
    rw [Nat.zero_add]
    exact this
/-- What lies behind the first m. -/
theorem EvM.drop {w : World} {g o : Nat} {L M : List Ev} {m : Nat} (h : EvM w (some ⟨g, o, none⟩) (L ++ M)) (hm : m = L.length) : EvM w (some ⟨g, o + m * 15, none⟩) M := fun k c hc => by
  subst hm
  obtain ⟨g', o', h1, h2, h3⟩ := h (L.length + k) c (by rw [List.getElem?_append_right (by omega), Nat.add_sub_cancel_left]; exact hc)
  cases h1
  refine ⟨g, _, rfl, h2, ?_⟩
  rw [Nat.add_assoc, ← Nat.add_mul]
  exact h3
theorem run_load_ev {w : World} {b o : Nat} {c : Ev} (h : w.rangeAt b o (evT c)) : (loadVar 36 ⟨b, o, none⟩).run Tryd.prog w = .ok (.agg (evA c)) w :=
  run_loadVar_mid _ _ _ _ _ _ h Tryd.underlying36 rfl (by kernel_rfl)
theorem cell_drewE {w : World} {n : Nat} {a : Addr} {v : Value} (h : w.cell? a = some v) : (w.drewN n).cell? a = some v := by simpa using h
theorem range_drewE {w : World} {n b o : Nat} {cs : List Value} (h : w.rangeAt b o cs) : (w.drewN n).rangeAt b o cs := fun j v hj => cell_drewE (h j v hj)
section
attribute [local go_sem ↓] neEv
attribute [-go_sem] loadVar
set_option maxRecDepth 100000 in
set_option maxHeartbeats 1000000 in
theorem same_evs (w : World) (a b : Option Addr) (c d : Nat) (L : List Ev) (h1 : EvM w a L) (h2 : EvM w b L) (hn : L.length < 1000000) :
    Calls Tryd.prog 16 #[.slice a L.length c, .slice b L.length d] w fun e w' => e = .returned (.bool true) ∧ Below w.heap.size w w' := by
  have H1 := Lib.hid h1
  have H2 := Lib.hid h2
  clear h1 h2
  obtain ⟨N, hN⟩ : ∃ N, N = L.length := ⟨_, rfl⟩
  rw [← hN] at hn ⊢
  have HN := Lib.hid hN
  clear hN
  go_enter Tryd.func16, Tryd.ntmps16
  go_wp2
  go_loopw [5] (fun i wr => ∃ k : Nat, k ≤ N ∧ i = .int .i64 k ∧ (∃ j, wr = w.drewN j)) (fun i _ => N - (intOf i).toNat)
  case atStart => exact ⟨0, by omega, rfl, ⟨0, rfl⟩⟩
  case round =>
    obtain ⟨k, hk, rfl, ⟨j, rfl⟩⟩ := hrel
    by_cases hlt : k < N
    · have hlt' : (k : Int) < N := by omega
      obtain ⟨y, hy⟩ : ∃ y, L[k]? = some y := ⟨L[k]'(by have := HN.out; omega), List.getElem?_eq_getElem _⟩
      obtain ⟨g, o, rfl, _, hg⟩ := H1.out k y hy
      obtain ⟨q, o', rfl, _, hq⟩ := H2.out k y hy
      have r1 : ∀ n, (loadVar 36 ⟨g, o + k * 15, none⟩).run Tryd.prog (w.drewN n) = .ok (.agg (evA y)) (w.drewN n) := fun n => run_load_ev (range_drewE hg)
      have r2 : ∀ n, (loadVar 36 ⟨q, o' + k * 15, none⟩).run Tryd.prog (w.drewN n) = .ok (.agg (evA y)) (w.drewN n) := fun n => run_load_ev (range_drewE hq)
      have r3 : ∀ m n, (loadVar 36 ⟨g, o + k * 15, none⟩).run Tryd.prog ((w.drewN m).drewN n) = .ok (.agg (evA y)) ((w.drewN m).drewN n) := fun m n => run_load_ev (range_drewE (range_drewE hg))
      have r4 : ∀ m n, (loadVar 36 ⟨q, o' + k * 15, none⟩).run Tryd.prog ((w.drewN m).drewN n) = .ok (.agg (evA y)) ((w.drewN m).drewN n) := fun m n => run_load_ev (range_drewE (range_drewE hq))
      clear hg hq hy
      go_wp2
      go_quiet (fail)
      go_wp2
      go_roundw
      case rel => exact ⟨k + 1, by omega, by go_num, ⟨_, rfl⟩⟩
      case measure => simp [intOf]; omega
    · obtain rfl : k = N := by omega
      go_wp2
      go_ret
      exact ⟨rfl, below_drewN (Below.refl _ _) _⟩
end
theorem grown_transE {a b c : World} {r : Option Nat} (h : a.grownBy b r) (k : b.grownBy c r) : a.grownBy c r :=
  ⟨k.os.trans h.os, k.tape.trans h.tape, k.output.trans h.output, Nat.le_trans h.size k.size, fun j h1 h2 => (k.block j (Nat.lt_of_lt_of_le h1 h.size) h2).trans (h.block j h1 h2)⟩
theorem setCells_otherE (g : Nat) : ∀ (cs : List Value) (o : Nat) (w : World) (k : Nat), k ≠ g → (w.setCells g o cs).heap[k]? = w.heap[k]?
  | [], _, _, _, _ => rfl
  | u :: cs, o, w, k, h => by
    rw [World.setCells, setCells_otherE g cs (o + 1) _ k h]
    exact Go.heap_setCell_other _ _ _ _ h
theorem setCells_worldE (g : Nat) : ∀ (cs : List Value) (o : Nat) (w : World), (w.setCells g o cs).os = w.os ∧ (w.setCells g o cs).tape = w.tape ∧ (w.setCells g o cs).output = w.output ∧ (w.setCells g o cs).heap.size = w.heap.size
  | [], _, _ => ⟨rfl, rfl, rfl, rfl⟩
  | u :: cs, o, w => by
    obtain ⟨h1, h2, h3, h4⟩ := setCells_worldE g cs (o + 1) (w.setCell ⟨g, o, none⟩ u)
    exact ⟨h1, h2, h3, h4.trans (by simp)⟩
theorem grown_setCellsE (w : World) (g o : Nat) (cs : List Value) : w.grownBy (w.setCells g o cs) (some g) := by
  obtain ⟨h1, h2, h3, h4⟩ := setCells_worldE g cs o w
  exact ⟨h1, h2, h3, Nat.le_of_eq h4.symm, fun k _ hk => setCells_otherE g cs o w k (fun e => hk (by rw [e]))⟩
theorem setCells_blockE {g : Nat} {t : TypeId} : ∀ (vs : List Value) (o : Nat) (w : World) (cs : Array Value), w.heap[g]? = some (.cells cs t (0, 0)) → ∃ cs', (w.setCells g o vs).heap[g]? = some (.cells cs' t (0, 0)) ∧ cs'.size = cs.size
  | [], _, _, cs, h => ⟨cs, h, rfl⟩
  | v :: vs, o, w, cs, h => by
    obtain ⟨cs', h1, h2⟩ := setCells_blockE vs (o + 1) (w.setCell ⟨g, o, none⟩ v) (cs.setIfInBounds o v) (Go.heap_setCell_same _ _ _ _ _ _ h)
    exact ⟨cs', h1, by simpa using h2⟩
theorem news_atE (wr W : World) (cs : List Value) (t : TypeId) (h : W.heap = (wr.alloc (.cells cs.toArray t)).heap) : ∀ j u, cs[j]? = some u → W.cell? ((⟨wr.heap.size, 0, none⟩ : Addr).add j) = some u := by
  intro j u hj
  rw [addr_add]
  have hb : W.heap[wr.heap.size]? = some (.cells cs.toArray t (0, 0)) := by rw [h]; exact World.alloc_heap_new _ _
  simp [World.cell?, hb, hj]
def overE : Ev := fun i => if i = 0 then -9 else 0
set_option maxRecDepth 100000 in
set_option maxHeartbeats 2000000 in
theorem over_evs (w : World) (v : Value) (n : Nat) (xs : List Value) (base : Nat) (h : w.ownsRow base 36 15 v n xs) (hl : n ≤ 1000000) :
    Calls Tryd.prog 17 #[v] w fun e w' => (∃ u, e = .returned u) ∧ w.grownBy w' v.ownBlock := by
  obtain ⟨i0, hi0, hz0, hz1, hz2⟩ := info_parts infoEv
  have HI0 := Lib.hid hi0
  clear hi0
  have hbs := h.1
  rcases h.2 with ⟨rfl, h0⟩ | ⟨g, cap, cur, rfl, hg, hb, hn, hcap, hs, _⟩
  · rw [h0] at *
    go_enter Tryd.func17, Tryd.ntmps17
    go_wp2
    refine wp_loop_rounds 1 ?_
    rw [rounds_succ]
    go_wp2_with (at_builtin; refine wpList_append_own _ rfl _ _ 22 rfl 0 36 i0 (.agg #[.int .i64 0, .int .i64 0, .int .i64 0, .int .u64 0, .int .u64 0, .int .u64 0, .int .u64 0, .int .u64 0, .int .u64 0, .int .u64 0, .int .u64 0, .int .u64 0, .int .i64 0, .int .i64 0, .int .i64 0]) 15 120 Tryd.underlying22 HI0.out hz0 hz1 hz2 rfl (by decide) _ _ _ rfl ((World.ownsRow_nil w 0 36 15).alloc _) ⟨w.heap.size, 0, none⟩ 1 1 (evT overE) rfl rfl (news_atE w _ _ _ rfl) (by decide) (by unfold maxLen; omega) (by omega) (by omega) ?_; intro v' w1 hown' hgrow _)
    go_end0
    exact ⟨⟨_, rfl⟩, grown_transE (World.grownBy_alloc w _ _) hgrow⟩
  · go_enter Tryd.func17, Tryd.ntmps17
    go_wp2
    go_loopw [2] (fun i wr => ∃ (k : Nat) (cs : Array Value), k ≤ n ∧ i = .int .i64 k ∧ wr.heap[g]? = some (.cells cs 36 (0, 0)) ∧ cs.size = cap * 15 ∧ w.grownBy wr (some g)) (fun i _ => n - (intOf i).toNat)
    case atStart => exact ⟨0, cur, by omega, rfl, hb, by omega, ⟨rfl, rfl, rfl, Nat.le_refl _, fun _ _ _ => rfl⟩⟩
    case round =>
      obtain ⟨k, cs, hk, rfl, hB, hcs, hgr⟩ := hrel
      clear hb
      by_cases hlt : k < n
      · have hth : wr.there g (k * 15) 15 := fun j hj => by
          refine ⟨?_, Go.frozen_of_row _ _ _ _ _ hB⟩
          unfold World.cell?
          simp only [hB]
          rw [Array.getElem?_eq_getElem (by omega)]
          rfl
        have HTH := Lib.hid hth
        have HB := Lib.hid hB
        obtain ⟨cs', q1, q2⟩ := setCells_blockE (evT overE) (k * 15) wr cs hB
        have GQ := Lib.hid (grown_transE hgr (grown_setCellsE wr g (k * 15) (evT overE)))
        have Q1 := Lib.hid q1
        have hcs' : cs'.size = cap * 15 := by omega
        clear hB hth hgr q1 q2 HB
        have hltI : (k : Int) < n := by omega
        go_wp2_with (refine wpList_store_mid rfl 36 _ _ rfl g (k * 15) _ rfl rfl ?ga ?gb ?gc ?gd; (case ga => exact HTH.out); (case gb => kernel_rfl); (case gc => decide +kernel))
        go_roundw
        case rel => exact ⟨k + 1, cs', by omega, by go_num, Q1.out, hcs', GQ.out⟩
        case measure => first | (simp [intOf]; done) | (simp [intOf]; omega)
      · obtain rfl : k = n := by omega
        have hown : wr.ownsRow 0 36 15 (.slice (some ⟨g, 0, none⟩) k cap) k (cs.toList.take (k * 15)) := ⟨by simp; omega, .inr ⟨g, cap, cs, rfl, Nat.zero_le _, hB, hn, hcap, by omega, rfl⟩⟩
        go_wp2_with (at_builtin; refine wpList_append_own _ rfl _ _ 22 rfl 0 36 i0 (.agg #[.int .i64 0, .int .i64 0, .int .i64 0, .int .u64 0, .int .u64 0, .int .u64 0, .int .u64 0, .int .u64 0, .int .u64 0, .int .u64 0, .int .u64 0, .int .u64 0, .int .i64 0, .int .i64 0, .int .i64 0]) 15 120 Tryd.underlying22 HI0.out hz0 hz1 hz2 rfl (by decide) _ _ _ rfl (hown.alloc _) ⟨wr.heap.size, 0, none⟩ 1 1 (evT overE) rfl rfl (news_atE wr _ _ _ rfl) (by decide) (by unfold maxLen; omega) (by omega) (by omega) ?_; intro v' w1 hown' hgrow _)
        go_end0
        exact ⟨⟨_, rfl⟩, grown_transE (grown_transE hgr (World.grownBy_alloc wr _ _)) hgrow⟩
end Sc
end Go.Proofs.YthgmanncmekeeaaDoor
