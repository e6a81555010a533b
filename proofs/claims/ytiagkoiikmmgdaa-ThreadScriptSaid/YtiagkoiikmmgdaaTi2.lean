/- chapter 20's own answer: Get; lists compared, and written over; Drop. -/
import Derived.Test.YtiagkoiikmmgdaaTi1
import Derived.BigQuiet
import Derived.Maps.AppendAt
namespace Go.Proofs.Ytiagkoiikmmgdaa
set_option linter.unusedVariables false
set_option linter.unusedSimpArgs false
open Go.ChangeShapes Go.WideShapes Go.ChangeAt Go.RowKit Go.Shelf
open TabT

theorem run_load_th {w : World} {b o : Nat} {x : Th} (h : w.rangeAt b o x.cells) : (loadVar 35 ⟨b, o, none⟩).run Try.prog w = .ok (.agg x.cells.toArray) w :=
  run_loadVar_mid _ _ _ _ _ _ h Try.underlying35 rfl (by kernel_rfl)
theorem run_load_int {w : World} {a : Addr} {n : Int} (h : w.cell? a = some (.int .i64 n)) : (loadVar 3 a).run Try.prog w = .ok (.int .i64 n) w := by
  simp [go_sem, loadVar, h]
theorem run_load_sl {w : World} {a : Addr} {v : Value} (h : w.cell? a = some v) : (loadVar 27 a).run Try.prog w = .ok v w := by
  simp [go_sem, loadVar, h]
theorem cell_drewT {w : World} {n : Nat} {a : Addr} {v : Value} (h : w.cell? a = some v) : (w.drewN n).cell? a = some v := by simpa using h
theorem range_drewT {w : World} {n b o : Nat} {cs : List Value} (h : w.rangeAt b o cs) : (w.drewN n).rangeAt b o cs := fun j v hj => cell_drewT (h j v hj)
/-- A slice of threads, nil included. -/
def ThsIs (w : World) (a : Option Addr) (L : List Th) : Prop := ∀ i, i < L.length → ∃ g, a = some ⟨g, 0, none⟩ ∧ g < w.heap.size ∧ ThsAt w g L
theorem ths_is {w : World} {base : Nat} {ra : Option Addr} {rc : Nat} {L : List Th} (h : w.ownsRow base 35 24 (.slice ra L.length rc) L.length (thsC L)) : ThsIs w ra L := by
  obtain ⟨ra', rc', e, hrc, hra⟩ := ths_of h
  cases e
  exact fun i hi => by obtain ⟨g, h1, h2, h3, h4⟩ := hra i hi; exact ⟨g, h1, h3, h4⟩
theorem ThsIs.call {w w' : World} {a : Option Addr} {L : List Th} (h : ThsIs w a L) (hb : Below w.heap.size w w') : ThsIs w' a L := fun i hi => by
  obtain ⟨g, h1, h2, h3⟩ := h i hi
  exact ⟨g, h1, Nat.lt_of_lt_of_le h2 hb.size, h3.kept (hb.block g h2)⟩
theorem grown_setCells (w : World) (g o : Nat) (cs : List Value) : w.grownBy (w.setCells g o cs) (some g) := by
  obtain ⟨h1, h2, h3, h4⟩ := setCells_world g cs o w
  exact ⟨h1, h2, h3, Nat.le_of_eq h4.symm, fun k _ hk => setCells_other g cs o w k (fun e => hk (by rw [e]))⟩
theorem setCells_block {g : Nat} {t : TypeId} : ∀ (vs : List Value) (o : Nat) (w : World) (cs : Array Value), w.heap[g]? = some (.cells cs t (0, 0)) → ∃ cs', (w.setCells g o vs).heap[g]? = some (.cells cs' t (0, 0)) ∧ cs'.size = cs.size
  | [], _, _, cs, h => ⟨cs, h, rfl⟩
  | v :: vs, o, w, cs, h => by
    obtain ⟨cs', h1, h2⟩ := setCells_block vs (o + 1) (w.setCell ⟨g, o, none⟩ v) (cs.setIfInBounds o v) (Go.heap_setCell_same _ _ _ _ _ _ h)
    exact ⟨cs', h1, by simpa using h2⟩
theorem news_at (wr W : World) (cs : List Value) (t : TypeId) (h : W.heap = (wr.alloc (.cells cs.toArray t)).heap) : ∀ j u, cs[j]? = some u → W.cell? ((⟨wr.heap.size, 0, none⟩ : Addr).add j) = some u := by
  intro j u hj
  rw [Addr.add_mid, Nat.zero_add]
  have hb : W.heap[wr.heap.size]? = some (.cells cs.toArray t (0, 0)) := by rw [h]; exact World.alloc_heap_new _ _
  simp [World.cell?, hb, hj]
def overT : Th := { zeroT with id := -9 }
set_option maxRecDepth 100000 in
set_option maxHeartbeats 2000000 in
theorem over_ths (w : World) (v : Value) (n : Nat) (xs : List Value) (base : Nat) (h : w.ownsRow base 35 24 v n xs) (hl : n ≤ 1000) :
    Calls Try.prog 23 #[v] w fun e w' => (∃ u, e = .returned u) ∧ w.grownBy w' v.ownBlock := by
  obtain ⟨i0, hi0, hz0, hz1, hz2⟩ := info_parts infoTh
  have HI0 := Lib.hid hi0
  clear hi0
  have hbs := h.1
  rcases h.2 with ⟨rfl, h0⟩ | ⟨g, cap, cur, rfl, hg, hb, hn, hcap, hs, _⟩
  · rw [h0] at *
    go_enter Try.func23, Try.ntmps23
    go_wp2
    refine wp_loop_rounds 1 ?_
    rw [rounds_succ]
    go_wp2_with (at_builtin; refine wpList_append_own _ rfl _ _ 27 rfl 0 35 i0 (.agg #[.int .i64 0, .int .i64 0, .int .i64 0, .int .u64 0, .int .u64 0, .int .u64 0, .int .u64 0, .int .u64 0, .bool false, .int .i64 0, .int .i64 0, .int .u64 0, .int .u64 0, .int .u64 0, .int .u64 0, .int .u64 0, .int .i64 0, .int .i64 0, .bool false, .bool false, .bool false, .bool false, .int .u64 0, .int .u64 0]) 24 176 Try.underlying27 HI0.out hz0 hz1 hz2 rfl (by decide) _ _ _ rfl ((World.ownsRow_nil w 0 35 24).alloc _) ⟨w.heap.size, 0, none⟩ 1 1 overT.cells rfl rfl (news_at w _ overT.cells _ rfl) (th_one _) (by unfold maxLen; omega) (by omega) (by omega) ?_; intro v' w1 hown' hgrow _)
    go_end0
    exact ⟨⟨_, rfl⟩, grown_trans (World.grownBy_alloc w _ _) hgrow⟩
  · go_enter Try.func23, Try.ntmps23
    go_wp2
    go_loopw [2] (fun i wr => ∃ (k : Nat) (cs : Array Value), k ≤ n ∧ i = .int .i64 k ∧ wr.heap[g]? = some (.cells cs 35 (0, 0)) ∧ cs.size = cap * 24 ∧ w.grownBy wr (some g)) (fun i _ => n - (intOf i).toNat)
    case atStart => exact ⟨0, cur, by omega, rfl, hb, by omega, ⟨rfl, rfl, rfl, Nat.le_refl _, fun _ _ _ => rfl⟩⟩
    case round =>
      obtain ⟨k, cs, hk, rfl, hB, hcs, hgr⟩ := hrel
      clear hb
      by_cases hlt : k < n
      · have hth : wr.there g (k * 24) 24 := fun j hj => by
          refine ⟨?_, Go.frozen_of_row _ _ _ _ _ hB⟩
          unfold World.cell?
          simp only [hB]
          rw [Array.getElem?_eq_getElem (by omega)]
          rfl
        have HTH := Lib.hid hth
        have HB := Lib.hid hB
        obtain ⟨cs', q1, q2⟩ := setCells_block [.int .i64 (-9), .int .i64 0, .int .i64 0, .int .u64 0, .int .u64 0, .int .u64 0, .int .u64 0, .int .u64 0, .bool false, .int .i64 0, .int .i64 0, .int .u64 0, .int .u64 0, .int .u64 0, .int .u64 0, .int .u64 0, .int .i64 0, .int .i64 0, .bool false, .bool false, .bool false, .bool false, .int .u64 0, .int .u64 0] (k * 24) wr cs hB
        have GQ := Lib.hid (grown_trans hgr (grown_setCells wr g (k * 24) [.int .i64 (-9), .int .i64 0, .int .i64 0, .int .u64 0, .int .u64 0, .int .u64 0, .int .u64 0, .int .u64 0, .bool false, .int .i64 0, .int .i64 0, .int .u64 0, .int .u64 0, .int .u64 0, .int .u64 0, .int .u64 0, .int .i64 0, .int .i64 0, .bool false, .bool false, .bool false, .bool false, .int .u64 0, .int .u64 0]))
        have Q1 := Lib.hid q1
        have hcs' : cs'.size = cap * 24 := by omega
        clear hB hth hgr q1 q2 HB
        have hltI : (k : Int) < n := by omega
        go_wp2_with (refine wpList_store_mid rfl 35 _ _ rfl g (k * 24) _ rfl rfl ?ga ?gb ?gc ?gd; (case ga => exact HTH.out); (case gb => kernel_rfl); (case gc => decide +kernel))
        go_roundw
        case rel => exact ⟨k + 1, cs', by omega, by go_num, Q1.out, hcs', GQ.out⟩
        case measure => first | (simp [intOf]; done) | (simp [intOf]; omega)
      · obtain rfl : k = n := by omega
        have hown : wr.ownsRow 0 35 24 (.slice (some ⟨g, 0, none⟩) k cap) k (cs.toList.take (k * 24)) := ⟨by simp; omega, .inr ⟨g, cap, cs, rfl, Nat.zero_le _, hB, hn, hcap, by omega, rfl⟩⟩
        go_wp2_with (at_builtin; refine wpList_append_own _ rfl _ _ 27 rfl 0 35 i0 (.agg #[.int .i64 0, .int .i64 0, .int .i64 0, .int .u64 0, .int .u64 0, .int .u64 0, .int .u64 0, .int .u64 0, .bool false, .int .i64 0, .int .i64 0, .int .u64 0, .int .u64 0, .int .u64 0, .int .u64 0, .int .u64 0, .int .i64 0, .int .i64 0, .bool false, .bool false, .bool false, .bool false, .int .u64 0, .int .u64 0]) 24 176 Try.underlying27 HI0.out hz0 hz1 hz2 rfl (by decide) _ _ _ rfl (hown.alloc _) ⟨wr.heap.size, 0, none⟩ 1 1 overT.cells rfl rfl (news_at wr _ overT.cells _ rfl) (th_one _) (by unfold maxLen; omega) (by omega) (by omega) ?_; intro v' w1 hown' hgrow _)
        go_end0
        exact ⟨⟨_, rfl⟩, grown_trans (grown_trans hgr (World.grownBy_alloc wr _ _)) hgrow⟩
attribute [local go_sem ↓] neT
attribute [-go_sem] loadVar
set_option maxRecDepth 100000 in
set_option maxHeartbeats 1000000 in
theorem same_ths (w : World) (a b : Option Addr) (c d : Nat) (L : List Th) (h1 : ThsIs w a L) (h2 : ThsIs w b L) (hn : L.length < 1000000) :
    Calls Try.prog 22 #[.slice a L.length c, .slice b L.length d] w fun e w' => e = .returned (.bool true) ∧ ∃ j, w' = w.drewN j := by
  have H1 := Lib.hid h1
  have H2 := Lib.hid h2
  clear h1 h2
  obtain ⟨N, hN⟩ : ∃ N, N = L.length := ⟨_, rfl⟩
  rw [← hN] at hn ⊢
  have HN := Lib.hid hN
  clear hN
  go_enter Try.func22, Try.ntmps22
  go_wp2
  go_loopw [5] (fun i wr => ∃ k : Nat, k ≤ N ∧ i = .int .i64 k ∧ (∃ j, wr = w.drewN j)) (fun i _ => N - (intOf i).toNat)
  case atStart => exact ⟨0, by omega, rfl, ⟨0, rfl⟩⟩
  case round =>
    obtain ⟨k, hk, rfl, ⟨j, rfl⟩⟩ := hrel
    by_cases hlt : k < N
    · have hlt' : (k : Int) < N := by omega
      obtain ⟨g, rfl, _, hg⟩ := H1.out k (by have := HN.out; omega)
      obtain ⟨q, rfl, _, hq⟩ := H2.out k (by have := HN.out; omega)
      obtain ⟨y, hy⟩ : ∃ y, L[k]? = some y := ⟨L[k]'(by have := HN.out; omega), List.getElem?_eq_getElem _⟩
      have r1 : ∀ n, (loadVar 35 ⟨g, k * 24, none⟩).run Try.prog (w.drewN n) = .ok (.agg y.cells.toArray) (w.drewN n) := fun n => run_load_th (range_drewT (hg k y hy))
      have r2 : ∀ n, (loadVar 35 ⟨q, k * 24, none⟩).run Try.prog (w.drewN n) = .ok (.agg y.cells.toArray) (w.drewN n) := fun n => run_load_th (range_drewT (hq k y hy))
      have r3 : ∀ m n, (loadVar 35 ⟨g, k * 24, none⟩).run Try.prog ((w.drewN m).drewN n) = .ok (.agg y.cells.toArray) ((w.drewN m).drewN n) := fun m n => run_load_th (range_drewT (range_drewT (hg k y hy)))
      have r4 : ∀ m n, (loadVar 35 ⟨q, k * 24, none⟩).run Try.prog ((w.drewN m).drewN n) = .ok (.agg y.cells.toArray) ((w.drewN m).drewN n) := fun m n => run_load_th (range_drewT (range_drewT (hq k y hy)))
      clear hg hq hy
      go_wp2
      go_quiet (fail)
      go_wp2
      go_roundw
      case rel => exact ⟨k + 1, by omega, by go_num, ⟨_, rfl⟩⟩
      case measure => simp [intOf]; omega
    · obtain rfl : k = N := by omega
      go_wp2
      go_ret
      exact ⟨rfl, _, rfl⟩
set_option maxRecDepth 100000 in
set_option maxHeartbeats 2000000 in
theorem rget_any (w : World) (rb base : Nat) (v : Value) (L : List Th) (id : Int) (h : RefT w rb base v L) (hA : Asc (rowsH L)) (hl : L.length < 1000000) :
    Calls Try.prog 18 #[.pointer (some ⟨rb, 0, none⟩), .int .i64 id] w fun e w' => e = .returned (.tuple #[.agg (obT (getT L id)).cells.toArray, .bool (getT L id).isSome]) ∧ Below w.heap.size w w' := by
  have hal : Below w.heap.size w (w.alloc (.cells #[.int .i64 0, .int .i64 0, .int .i64 0, .int .u64 0, .int .u64 0, .int .u64 0, .int .u64 0, .int .u64 0, .bool false, .int .i64 0, .int .i64 0, .int .u64 0, .int .u64 0, .int .u64 0, .int .u64 0, .int .u64 0, .int .i64 0, .int .i64 0, .bool false, .bool false, .bool false, .bool false, .int .u64 0, .int .u64 0] 35)) := bal (Below.refl _ _) _
  have hR := h.call hal
  have HR := Lib.hid hR
  have HAL := Lib.hid hal
  have hfin : ∀ (x : Th), (w.alloc (.cells #[.int .i64 0, .int .i64 0, .int .i64 0, .int .u64 0, .int .u64 0, .int .u64 0, .int .u64 0, .int .u64 0, .bool false, .int .i64 0, .int .i64 0, .int .u64 0, .int .u64 0, .int .u64 0, .int .u64 0, .int .u64 0, .int .i64 0, .int .i64 0, .bool false, .bool false, .bool false, .bool false, .int .u64 0, .int .u64 0] 35)).heap[w.heap.size]? = some (.cells #[.int .i64 0, .int .i64 0, .int .i64 0, .int .u64 0, .int .u64 0, .int .u64 0, .int .u64 0, .int .u64 0, .bool false, .int .i64 0, .int .i64 0, .int .u64 0, .int .u64 0, .int .u64 0, .int .u64 0, .int .u64 0, .int .i64 0, .int .i64 0, .bool false, .bool false, .bool false, .bool false, .int .u64 0, .int .u64 0] 35 (0, 0)) ∧ (loadVar 35 ⟨w.heap.size, 0, none⟩).run Try.prog ((w.alloc (.cells #[.int .i64 0, .int .i64 0, .int .i64 0, .int .u64 0, .int .u64 0, .int .u64 0, .int .u64 0, .int .u64 0, .bool false, .int .i64 0, .int .i64 0, .int .u64 0, .int .u64 0, .int .u64 0, .int .u64 0, .int .u64 0, .int .i64 0, .int .i64 0, .bool false, .bool false, .bool false, .bool false, .int .u64 0, .int .u64 0] 35)).setRow w.heap.size x.cells.toArray) = .ok (.agg x.cells.toArray) ((w.alloc (.cells #[.int .i64 0, .int .i64 0, .int .i64 0, .int .u64 0, .int .u64 0, .int .u64 0, .int .u64 0, .int .u64 0, .bool false, .int .i64 0, .int .i64 0, .int .u64 0, .int .u64 0, .int .u64 0, .int .u64 0, .int .u64 0, .int .i64 0, .int .i64 0, .bool false, .bool false, .bool false, .bool false, .int .u64 0, .int .u64 0] 35)).setRow w.heap.size x.cells.toArray) ∧ Below w.heap.size w ((w.alloc (.cells #[.int .i64 0, .int .i64 0, .int .i64 0, .int .u64 0, .int .u64 0, .int .u64 0, .int .u64 0, .int .u64 0, .bool false, .int .i64 0, .int .i64 0, .int .u64 0, .int .u64 0, .int .u64 0, .int .u64 0, .int .u64 0, .int .i64 0, .int .i64 0, .bool false, .bool false, .bool false, .bool false, .int .u64 0, .int .u64 0] 35)).setRow w.heap.size x.cells.toArray) := by
    intro x
    have hk := heap_alloc_new w (.cells #[.int .i64 0, .int .i64 0, .int .i64 0, .int .u64 0, .int .u64 0, .int .u64 0, .int .u64 0, .int .u64 0, .bool false, .int .i64 0, .int .i64 0, .int .u64 0, .int .u64 0, .int .u64 0, .int .u64 0, .int .u64 0, .int .i64 0, .int .i64 0, .bool false, .bool false, .bool false, .bool false, .int .u64 0, .int .u64 0] 35)
    exact ⟨hk, run_loadVar_row _ _ _ _ _ _ _ (setRow_heap _ _ _ _ _ _ hk) Try.underlying35 rfl (by kernel_rfl), below_row HAL.out (Nat.le_refl _) _⟩
  have HF := Lib.hid hfin
  clear hfin
  cases hh : hasH L id with
  | false =>
    have hg : getT L id = none := by unfold getT; rw [hh]; rfl
    rw [hg]
    have HNO := Lib.hid (at_none hh)
    have HB := Lib.hid (HF.out zeroT)
    clear h hR hal hh hg hA HF
    go_enter Try.func18, Try.ntmps18
    go_wp2_with (first
      | (go_at_call 26; refine (at_no _ rb base v L id HR.out hl HNO.out).mono ?_; rintro e w1 ⟨rfl, rfl⟩)
      | (refine wpList_store_row rfl 35 _ _ rfl w.heap.size zeroT.cells.toArray rfl rfl _ _ HB.out.1 (by kernel_rfl) rfl (th_one' _) ?_))
    have hl := HB.out.2.1
    exact bodyPost_ret (v := .tuple #[.agg zeroT.cells.toArray, .bool false]) (by simp [results, Try.results18, go_sem, asAddr, hl]) rfl ⟨rfl, HB.out.2.2⟩
  | true =>
    obtain ⟨x, p, hx, hid, hg, hp, hbe⟩ := at_facts hA hh
    rw [hg]
    have hpL := (List.getElem?_eq_some_iff.1 hx).1
    obtain ⟨ra, rc, rfl, hrc, hra⟩ := ths_of hR.row
    obtain ⟨g, rfl, _, hgl, hobs⟩ := hra p hpL
    have HLD := Lib.hid (hobs p x hx)
    have HX := Lib.hid hx
    have HXI := Lib.hid hid
    have HBE := Lib.hid hbe
    have HB := Lib.hid (HF.out x)
    have hpI : (p : Int) < L.length := by omega
    have q1 := run_load_sl hR.c0
    clear h hR hal hh hg hA HF hra hobs hx hbe hid hp
    go_enter Try.func18, Try.ntmps18
    go_wp2_with (first
      | (go_at_call 26; refine (at_yes _ rb base _ L id HR.out hl p x HX.out HXI.out HBE.out).mono ?_; rintro e w1 ⟨rfl, rfl⟩)
      | (refine wpList_load_mid rfl 35 _ rfl g (p * 24) rfl x.cells _ HLD.out Try.underlying35 rfl (by kernel_rfl) ?_)
      | (refine wpList_store_row rfl 35 _ _ rfl w.heap.size x.cells.toArray rfl rfl _ _ HB.out.1 (by kernel_rfl) rfl (th_one' _) ?_))
    have hl := HB.out.2.1
    exact bodyPost_ret (v := .tuple #[.agg x.cells.toArray, .bool true]) (by simp [results, Try.results18, go_sem, asAddr, hl]) rfl ⟨rfl, HB.out.2.2⟩
end Go.Proofs.Ytiagkoiikmmgdaa
