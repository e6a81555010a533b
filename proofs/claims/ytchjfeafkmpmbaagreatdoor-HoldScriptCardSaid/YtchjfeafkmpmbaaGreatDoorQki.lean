import Derived.Test.YtchjfeafkmpmbaaGreatDoorQkh
import Derived.Deep.RegionHeld3
namespace Go.Proofs.YtchjfeafkmpmbaaGreatDoor
set_option linter.unusedVariables false
set_option linter.unusedSimpArgs false
set_option maxRecDepth 100000
set_option maxHeartbeats 8000000
open Lib (hid)
section
open Go.ChangeShapes Go.WideShapes Go.ChangeAt Go.RowKit Go.Shelf
theorem cells_below {W W' : World} {g i : Nat} {y : Nod} (h : W.cell? ⟨g, i * 3, none⟩ = some (.int .i64 y.o) ∧ W.cell? ⟨g, i * 3 + 1, none⟩ = some (.int .i64 y.i) ∧ W.cell? ⟨g, i * 3 + 2, none⟩ = some (.int .i64 y.d)) (hb : Below W.heap.size W W') (hg : g < W.heap.size) :
  W'.cell? ⟨g, i * 3, none⟩ = some (.int .i64 y.o) ∧ W'.cell? ⟨g, i * 3 + 1, none⟩ = some (.int .i64 y.i) ∧ W'.cell? ⟨g, i * 3 + 2, none⟩ = some (.int .i64 y.d) :=
 ⟨(hb.cell (p := ⟨g, _, none⟩) hg).trans h.1, (hb.cell (p := ⟨g, _, none⟩) hg).trans h.2.1, (hb.cell (p := ⟨g, _, none⟩) hg).trans h.2.2⟩
theorem rbelow_any (w : World) (rb : Nat) (v : Value) (l : List Nod) (o i : Int) (h : RefT w rb v l) :
  Calls Tryz.prog 49 #[.pointer (some ⟨rb, 0, none⟩), slV o i] w fun e w' => ∃ u, e = .returned u ∧ SlotsAt w' u (belowA l o i) ∧ Below w.heap.size w w' := by
 have hal : Below w.heap.size w (w.alloc (slO o i)) := bal (Below.refl _ _) _
 have HA := hid hal
 have HS := hid (Sl2.fresh w o i)
 have HR := hid h
 unfold belowA
 cases hk : idx l o i with
 | none =>
  have hat : atI l o i = -1 := by unfold atI; rw [hk]
  have HAT := hid hat
  clear h hal hk hat
  go_enter Tryz.func49, Tryz.ntmps49
  go_wp2_with (go_at_call 95; with_reducible refine (rat_any _ rb v l o i (HR.out.call HA.out)).mono ?_; rw [HAT.out]; rintro e w1 ⟨rfl, hb1⟩)
  go_ret
  exact ⟨_, rfl, .inl ⟨rfl, rfl⟩, HA.out.trans (hb1.mono HA.out.size)⟩
 | some k =>
  obtain ⟨x, hx, hxs⟩ := idx_some hk
  have hkl := (lgs hx).1
  have hat : atI l o i = (k : Int) := by unfold atI; rw [hk]
  have HAT := hid hat
  have hle := h.le
  obtain ⟨i0, hi0, hz0, hz1, hz2⟩ := info_parts infoSl
  have HI0 := hid hi0
  obtain ⟨g, c, rfl, hg, hgr, hc⟩ := h.getg (by omega)
  have HC := hid hc
  have HX := hid hx
  have HG := hid hg
  have hble := belowN_le hkl
  clear h hal hk hat hx hc hg hi0
  generalize hL : l.length = L at *
  have HL := hid hL
  clear hL
  go_enter Tryz.func49, Tryz.ntmps49
  go_wp2_with (go_at_call 95; with_reducible refine (rat_any _ rb _ l o i (HR.out.call HA.out)).mono ?_; rw [HAT.out]; rintro e w1 ⟨rfl, hb1⟩; have HB1 := hid (HA.out.trans (hb1.mono HA.out.size)); clear hb1)
  have hkx : ¬ (k : Int) < 0 := by omega
  go_loopw [6, 7] (fun u t wr => ∃ (cc : Nat), cc ≤ belowN l k ∧ t = .int .i64 ((k + 1 + cc : Nat) : Int) ∧ Hid (wr.ownsRow w.heap.size 30 2 u cc (slsC ((l.drop (k + 1)).take cc)) ∧ Below w.heap.size w wr)) (fun _ t _ => L - (intOf t).toNat)
  case atStart => exact ⟨0, by omega, by first | rfl | go_num, hid ⟨World.ownsRow_nil _ _ _ _, HB1.out⟩⟩
  case round =>
   obtain ⟨cc, hcc, rfl, HST⟩ := hrel
   have HRW := hid (HR.out.call HST.out.2)
   by_cases hlt : cc < belowN l k
   ·have hLL := HL.out
    obtain ⟨y, hy, _⟩ := belowN_in HX.out hlt
    have HCW := hid (three_cells HG.out (HC.out _ y hy) HST.out.2)
    have HTK := hid (show (l.drop (k + 1)).take (cc + 1) = (l.drop (k + 1)).take cc ++ [y] by rw [List.take_add_one, List.getElem?_drop, hy]; rfl)
    have hrl := (ags HRW.out.blk).1
    obtain ⟨i, hi⟩ : ∃ i, k + 1 + cc = i := ⟨_, rfl⟩
    rw [hi] at HCW
    have HI := hid hi
    have hiL : (i : Int) < L := by omega
    have hend : ((i : Int)) < ((k + 1 + belowN l k : Nat) : Int) := by omega
    have hcb : cc ≤ 1000 := by omega
    rw [hi]
    clear hLL hy hi hrl
    go_wp2_with (first
     | (go_at_call 96; with_reducible refine (rend_any _ rb _ l k x HRW.out HX.out).mono ?_; rintro e w2 ⟨rfl, hb2⟩; have HB2 := hid hb2; obtain ⟨r0, rz⟩ := cell_box (HRW.out.call hb2).blk; obtain ⟨x0, x1, x2⟩ := cells_below HCW.out hb2 (Nat.lt_of_lt_of_le HG.out HST.out.2.size); have HRO := hid (own_block HST.out.1 (fun g hg => hb2.block g (HST.out.1.lt g hg).2)); clear hb2 rz)
     | (at_builtin; refine wpList_append_own _ rfl _ _ 55 rfl w.heap.size 30 i0 (.agg #[.int .i64 0, .int .i64 0]) 2 16 Tryz.underlying55 HI0.out hz0 hz1 hz2 rfl (by decide) _ _ _ rfl (HRO.out.alloc _) ⟨w2.heap.size, 0, none⟩ 1 1 (sltC y) rfl rfl (news_at w2 _ (sltC y) _ rfl) (by simp [Value.oneCell']) (by unfold maxLen; omega) (by omega) (by have := HST.out.2.size; have := HB2.out.size; simp; omega) ?_; intro u' w3 hown hgrow _; have HOW := hid hown; have HGR := hid hgrow; clear hown hgrow))
    go_roundw
    case rel =>
     refine ⟨cc + 1, by omega, by
      have := HI.out
      have e : ((k + 1 + (cc + 1) : Nat) : Int) = (i : Int) + 1 := by omega
      rw [e], hid ⟨by rw [HTK.out, slsC_snoc]; exact HOW.out, ?_⟩⟩
     have hb3 := HST.out.2.trans (HB2.out.mono HST.out.2.size)
     exact (hb3.alloc hb3.size _).grown HGR.out (by have := hb3.size; simp; omega) (fun j ej => (HRO.out.lt j ej).1)
    case measure => first | (simp [intOf]; done) | (simp [intOf]; omega)
   ·have hce : cc = belowN l k := by omega
    have hHL := HL.out
    have hlenb : ((l.drop (k + 1)).take cc).length = cc := by rw [List.length_take, List.length_drop]; omega
    have hrow := HST.out.1
    rw [hce] at hrow hlenb
    rw [← hlenb] at hrow
    have hsl := slots_row (l := (l.drop (k + 1)).take (belowN l k)) (by rw [hlenb] at hrow ⊢; exact hrow)
    have HSL := hid hsl
    have hend : ¬ ((k + 1 + cc : Nat) : Int) < ((k + 1 + belowN l k : Nat) : Int) := by omega
    clear hHL hlenb hrow hsl
    go_wp2_with (go_at_call 96; with_reducible refine (rend_any _ rb _ l k x HRW.out HX.out).mono ?_; rintro e w2 ⟨rfl, hb2⟩; have HB2 := hid hb2; clear hb2)
    go_ret
    exact ⟨_, rfl, HSL.out.call HB2.out, HST.out.2.trans (HB2.out.mono HST.out.2.size)⟩
theorem slots_form {W : World} {v : Value} {l : List Nod} (h : SlotsAt W v l) : ∃ a c, v = .slice a l.length c := by
 rcases h with ⟨rfl, rfl⟩ | ⟨g, c, rfl, _⟩
 ·exact ⟨none, 0, rfl⟩
 ·exact ⟨_, c, rfl⟩
def sl2_TrSd (x : Nod) : Int × Int := (x.o, x.i)
theorem same_slots (w : World) (u v : Value) (l r : List Nod) (hu : SlotsAt w u l) (hv : SlotsAt w v r) (hn : l.length < 1000000) (hr : r.length < 1000000) :
  Calls Tryz.prog 25 #[u, v] w fun e w' => e = .returned (.bool (decide (l.map sl2_TrSd = r.map sl2_TrSd))) ∧ ∃ j, w' = w.drewN j := by
 by_cases hl : l.length = r.length
 ·rcases hu with ⟨rfl, rfl⟩ | ⟨g, c, rfl, hg, hcg⟩
  ·have hr0 : r = [] := List.length_eq_zero_iff.1 hl.symm
   subst hr0
   obtain ⟨a, c, rfl⟩ := (slots_form hv)
   go_enter Tryz.func25, Tryz.ntmps25
   go_wp2
   refine wp_loop_rounds 1 ?_
   rw [rounds_succ]
   go_wp2
   go_ret
   exact ⟨rfl, 0, rfl⟩
  ·rcases hv with ⟨rfl, rfl⟩ | ⟨q, d, rfl, hq, hcq⟩
   ·have hr0 : l = [] := List.length_eq_zero_iff.1 hl
    subst hr0
    go_enter Tryz.func25, Tryz.ntmps25
    go_wp2
    refine wp_loop_rounds 1 ?_
    rw [rounds_succ]
    go_wp2
    go_ret
    exact ⟨rfl, 0, rfl⟩
   ·have HG := hid hcg
    have HQ := hid hcq
    clear hcg hcq
    rw [← hl]
    generalize hN : l.length = N at *
    go_enter Tryz.func25, Tryz.ntmps25
    go_wp2
    go_loopw [5] (fun i wr => ∃ k : Nat, k ≤ N ∧ i = .int .i64 k ∧ (∃ j, wr = w.drewN j) ∧ Hid ((l.take k).map sl2_TrSd = (r.take k).map sl2_TrSd)) (fun i _ => N - (intOf i).toNat)
    case atStart => exact ⟨0, by omega, rfl, ⟨0, rfl⟩, hid (by simp)⟩
    case round =>
     obtain ⟨k, hk, rfl, ⟨j, rfl⟩, HE⟩ := hrel
     by_cases hlt : k < N
     ·obtain ⟨x, hx⟩ : ∃ x, l[k]? = some x := ⟨l[k]'(by omega), List.getElem?_eq_getElem _⟩
      obtain ⟨y, hy⟩ : ∃ y, r[k]? = some y := ⟨r[k]'(by omega), List.getElem?_eq_getElem _⟩
      obtain ⟨x0, x1⟩ := HG.out k x hx
      obtain ⟨y0, y1⟩ := HQ.out k y hy
      have hne := neS x.o x.i y.o y.i
      have hlt' : (k : Int) < N := by omega
      have HX := hid hx
      have HY := hid hy
      clear hx hy
      by_cases hxy : x.o = y.o ∧ x.i = y.i
      ·simp only [hxy, and_self, decide_true, Bool.not_true] at hne
       rw [hxy.1] at x0
       rw [hxy.2] at x1
       have HXY := hid hxy
       clear hxy
       go_wp2
       go_quiet (fail)
       go_wp2
       go_roundw
       case rel => exact ⟨k + 1, by omega, by go_num, ⟨_, rfl⟩, hid (by rw [List.take_add_one, List.take_add_one, HX.out, HY.out, List.map_append, List.map_append, HE.out]; simp [sl2_TrSd, HXY.out])⟩
       case measure => simp [intOf]; omega
      ·simp only [hxy, decide_false, Bool.not_false] at hne
       have hlr : ¬ l.map sl2_TrSd = r.map sl2_TrSd := fun e => hxy (by
        have h1 : (l.map sl2_TrSd)[k]? = some (sl2_TrSd x) := by rw [List.getElem?_map, HX.out]; rfl
        have h2 : (r.map sl2_TrSd)[k]? = some (sl2_TrSd y) := by rw [List.getElem?_map, HY.out]; rfl
        rw [e, h2] at h1
        injection h1 with h1
        injection h1 with e1 e2
        exact ⟨e1.symm, e2.symm⟩)
       go_wp2
       go_quiet (fail)
       go_wp2
       go_ret
       rw [decide_eq_false hlr]
       exact ⟨rfl, _, World.drewN_drewN _ _ _⟩
     ·have hkN : k = N := by omega
      have hlr : l.map sl2_TrSd = r.map sl2_TrSd := by
       have := HE.out
       rw [List.take_of_length_le (by omega), List.take_of_length_le (by omega)] at this
       exact this
      subst hkN
      go_wp2
      go_ret
      rw [decide_eq_true hlr]
      exact ⟨rfl, _, rfl⟩
 ·have hne : ¬ l.map sl2_TrSd = r.map sl2_TrSd := fun e => hl (by have := congrArg List.length e; simpa using this)
  obtain ⟨a, c, rfl⟩ := (slots_form hu)
  obtain ⟨a', c', rfl⟩ := (slots_form hv)
  have hl' : ¬ (l.length : Int) = r.length := by omega
  simp only [hne, decide_false]
  clear hu hv
  generalize l.length = N at *
  generalize r.length = M at *
  go_enter Tryz.func25, Tryz.ntmps25
  go_wp2
  go_ret
  exact ⟨rfl, 0, rfl⟩
theorem grown_cell (w : World) (g i : Nat) (u : Value) : w.grownBy (w.setCell ⟨g, i, none⟩ u) (some g) :=
 ⟨rfl, rfl, rfl, by simp, fun k _ hk => Go.heap_setCell_other _ _ _ _ (fun e => hk (by rw [e]))⟩
theorem grown_trans_TrSd {a b c : World} {r : Option Nat} (h : a.grownBy b r) (k : b.grownBy c r) : a.grownBy c r :=
 ⟨k.os.trans h.os, k.tape.trans h.tape, k.output.trans h.output, Nat.le_trans h.size k.size, fun j h1 h2 => (k.block j (Nat.lt_of_lt_of_le h1 h.size) h2).trans (h.block j h1 h2)⟩
theorem over_slots (w : World) (v : Value) (l : List Nod) (xs : List Value) (h : w.ownsRow 0 30 2 v l.length xs) (hl : l.length ≤ 1000) :
  Calls Tryz.prog 55 #[v] w fun e w' => (∃ u, e = .returned u) ∧ w.grownBy w' v.ownBlock := by
 obtain ⟨i0, hi0, hz0, hz1, hz2⟩ := info_parts infoSl
 have HI0 := hid hi0
 clear hi0
 rcases h.2 with ⟨rfl, h0⟩ | ⟨g, cap, cur, rfl, hg, hb, hn, hcap, hs, _⟩
 ·rw [h0] at *
  go_enter Tryz.func55, Tryz.ntmps55
  go_wp2
  refine wp_loop_rounds 1 ?_
  rw [rounds_succ]
  go_wp2_with (at_builtin; refine wpList_append_own _ rfl _ _ 55 rfl 0 30 i0 (.agg #[.int .i64 0, .int .i64 0]) 2 16 Tryz.underlying55 HI0.out hz0 hz1 hz2 rfl (by decide) _ _ _ rfl ((World.ownsRow_nil w 0 30 2).alloc _) ⟨w.heap.size, 0, none⟩ 1 1 [.int .i64 (-9), .int .i64 0] rfl rfl (news_at w _ _ _ rfl) (by simp [Value.oneCell']) (by unfold maxLen; omega) (by omega) (by omega) ?_; intro v' w1 hown' hgrow _)
  go_end0
  exact ⟨⟨_, rfl⟩, grown_trans_TrSd (World.grownBy_alloc w _ _) hgrow⟩
 ·generalize l.length = n at *
  go_enter Tryz.func55, Tryz.ntmps55
  go_wp2
  go_loopw [2] (fun i wr => ∃ (k : Nat) (cs : Array Value), k ≤ n ∧ i = .int .i64 k ∧ wr.heap[g]? = some (.cells cs 30 (0, 0)) ∧ cs.size = cap * 2 ∧ w.grownBy wr (some g)) (fun i _ => n - (intOf i).toNat)
  case atStart => exact ⟨0, cur, by omega, rfl, hb, by omega, ⟨rfl, rfl, rfl, Nat.le_refl _, fun _ _ _ => rfl⟩⟩
  case round =>
   obtain ⟨k, cs, hk, rfl, hB, hcs, hgr⟩ := hrel
   clear hb
   by_cases hlt : k < n
   ·have ck : wr.cell? ⟨g, k * 2, none⟩ = some (cs[k * 2]'(by omega)) := by
     unfold World.cell?; simp only [hB]; exact Array.getElem?_eq_getElem (by omega)
    have ck1 : wr.cell? ⟨g, k * 2 + 1, none⟩ = some (cs[k * 2 + 1]'(by omega)) := by
     unfold World.cell?; simp only [hB]; exact Array.getElem?_eq_getElem (by omega)
    have fk : ∀ j, wr.frozen? ⟨g, j, none⟩ = false := fun j => Go.frozen_of_row _ _ _ _ _ hB
    have HB := hid hB; clear hB
    generalize cs[k * 2]'(by omega) = x at ck
    generalize cs[k * 2 + 1]'(by omega) = y at ck1
    go_wp2
    go_roundw
    case rel => exact ⟨k + 1, _, by omega, by go_num, Go.heap_setCell_same _ _ _ _ _ _ (Go.heap_setCell_same _ _ _ _ _ _ HB.out), by simp [hcs], grown_trans_TrSd hgr (grown_trans_TrSd (grown_cell wr g _ _) (grown_cell _ g _ _))⟩
    case measure => first | (simp [intOf]; done) | (simp [intOf]; omega)
   ·obtain rfl : k = n := by omega
    have hown : wr.ownsRow 0 30 2 (.slice (some ⟨g, 0, none⟩) k cap) k (cs.toList.take (k * 2)) := ⟨by simp; omega, .inr ⟨g, cap, cs, rfl, Nat.zero_le _, hB, hn, hcap, by omega, rfl⟩⟩
    go_wp2_with (at_builtin; refine wpList_append_own _ rfl _ _ 55 rfl 0 30 i0 (.agg #[.int .i64 0, .int .i64 0]) 2 16 Tryz.underlying55 HI0.out hz0 hz1 hz2 rfl (by decide) _ _ _ rfl (hown.alloc _) ⟨wr.heap.size, 0, none⟩ 1 1 [.int .i64 (-9), .int .i64 0] rfl rfl (news_at wr _ _ _ rfl) (by simp [Value.oneCell']) (by unfold maxLen; omega) (by omega) (by omega) ?_; intro v' w1 hown' hgrow _)
    go_end0
    exact ⟨⟨_, rfl⟩, grown_trans_TrSd (grown_trans_TrSd hgr (World.grownBy_alloc wr _ _)) hgrow⟩
theorem over_nodes (w : World) (v : Value) (l : List Nod) (xs : List Value) (h : w.ownsRow 0 44 3 v l.length xs) (hl : l.length ≤ 1000) :
  Calls Tryz.prog 54 #[v] w fun e w' => (∃ u, e = .returned u) ∧ w.grownBy w' v.ownBlock := by
 obtain ⟨i0, hi0, hz0, hz1, hz2⟩ := info_parts infoNd
 have HI0 := hid hi0
 clear hi0
 rcases h.2 with ⟨rfl, h0⟩ | ⟨g, cap, cur, rfl, hg, hb, hn, hcap, hs, _⟩
 ·rw [h0] at *
  go_enter Tryz.func54, Tryz.ntmps54
  go_wp2
  refine wp_loop_rounds 1 ?_
  rw [rounds_succ]
  go_wp2_with (at_builtin; refine wpList_append_own _ rfl _ _ 41 rfl 0 44 i0 (.agg #[.int .i64 0, .int .i64 0, .int .i64 0]) 3 24 Tryz.underlying41 HI0.out hz0 hz1 hz2 rfl (by decide) _ _ _ rfl ((World.ownsRow_nil w 0 44 3).alloc _) ⟨w.heap.size, 0, none⟩ 1 1 [.int .i64 0, .int .i64 0, .int .i64 (-9)] rfl rfl (news_at w _ _ _ rfl) (by simp [Value.oneCell']) (by unfold maxLen; omega) (by omega) (by omega) ?_; intro v' w1 hown' hgrow _)
  go_end0
  exact ⟨⟨_, rfl⟩, grown_trans_TrSd (World.grownBy_alloc w _ _) hgrow⟩
 ·generalize l.length = n at *
  go_enter Tryz.func54, Tryz.ntmps54
  go_wp2
  go_loopw [2] (fun i wr => ∃ (k : Nat) (cs : Array Value), k ≤ n ∧ i = .int .i64 k ∧ wr.heap[g]? = some (.cells cs 44 (0, 0)) ∧ cs.size = cap * 3 ∧ w.grownBy wr (some g)) (fun i _ => n - (intOf i).toNat)
  case atStart => exact ⟨0, cur, by omega, rfl, hb, by omega, ⟨rfl, rfl, rfl, Nat.le_refl _, fun _ _ _ => rfl⟩⟩
  case round =>
   obtain ⟨k, cs, hk, rfl, hB, hcs, hgr⟩ := hrel
   clear hb
   by_cases hlt : k < n
   ·have ck : wr.cell? ⟨g, k * 3, none⟩ = some (cs[k * 3]'(by omega)) := by
     unfold World.cell?; simp only [hB]; exact Array.getElem?_eq_getElem (by omega)
    have ck1 : wr.cell? ⟨g, k * 3 + 1, none⟩ = some (cs[k * 3 + 1]'(by omega)) := by
     unfold World.cell?; simp only [hB]; exact Array.getElem?_eq_getElem (by omega)
    have ck2 : wr.cell? ⟨g, k * 3 + 2, none⟩ = some (cs[k * 3 + 2]'(by omega)) := by
     unfold World.cell?; simp only [hB]; exact Array.getElem?_eq_getElem (by omega)
    have fk : ∀ j, wr.frozen? ⟨g, j, none⟩ = false := fun j => Go.frozen_of_row _ _ _ _ _ hB
    have HB := hid hB; clear hB
    generalize cs[k * 3]'(by omega) = x at ck
    generalize cs[k * 3 + 1]'(by omega) = y at ck1
    generalize cs[k * 3 + 2]'(by omega) = z at ck2
    go_wp2
    go_roundw
    case rel => exact ⟨k + 1, _, by omega, by go_num, Go.heap_setCell_same _ _ _ _ _ _ (Go.heap_setCell_same _ _ _ _ _ _ (Go.heap_setCell_same _ _ _ _ _ _ HB.out)), by simp [hcs], grown_trans_TrSd hgr (grown_trans_TrSd (grown_trans_TrSd (grown_cell wr g _ _) (grown_cell _ g _ _)) (grown_cell _ g _ _))⟩
    case measure => first | (simp [intOf]; done) | (simp [intOf]; omega)
   ·obtain rfl : k = n := by omega
    have hown : wr.ownsRow 0 44 3 (.slice (some ⟨g, 0, none⟩) k cap) k (cs.toList.take (k * 3)) := ⟨by simp; omega, .inr ⟨g, cap, cs, rfl, Nat.zero_le _, hB, hn, hcap, by omega, rfl⟩⟩
    go_wp2_with (at_builtin; refine wpList_append_own _ rfl _ _ 41 rfl 0 44 i0 (.agg #[.int .i64 0, .int .i64 0, .int .i64 0]) 3 24 Tryz.underlying41 HI0.out hz0 hz1 hz2 rfl (by decide) _ _ _ rfl (hown.alloc _) ⟨wr.heap.size, 0, none⟩ 1 1 [.int .i64 0, .int .i64 0, .int .i64 (-9)] rfl rfl (news_at wr _ _ _ rfl) (by simp [Value.oneCell']) (by unfold maxLen; omega) (by omega) (by omega) ?_; intro v' w1 hown' hgrow _)
    go_end0
    exact ⟨⟨_, rfl⟩, grown_trans_TrSd (grown_trans_TrSd hgr (World.grownBy_alloc wr _ _)) hgrow⟩
def cur (l : List Nod) (D : Int) (i : Nat) : List Nod := (l.take i).filter (fun x => decide (x.d < D)) ++ (l.drop i).filter (fun x => decide (x.d < D + 1))
theorem take_at {l : List Nod} {i : Nat} {x : Nod} (hx : l[i]? = some x) : l.take (i + 1) = l.take i ++ [x] := by
 rw [List.take_add_one, hx]; rfl
def rem (l : List Nod) (k : Nat) : List Nod := (low l k (belowN l k)).eraseIdx k
theorem rem_get {l : List Nod} {k j : Nat} : (rem l k)[j]? = (low l k (belowN l k))[back k j]? := del_back
theorem rem_slot {l : List Nod} {k j : Nat} {y : Nod} (h : (rem l k)[j]? = some y) : ∃ x, l[back k j]? = some x ∧ y.o = x.o ∧ y.i = x.i := by
 rw [rem_get] at h
 exact low_slot h
def fwd (k t : Nat) : Nat := if t < k then t else t - 1
theorem back_fwd {k t : Nat} (h : t ≠ k) : back k (fwd k t) = t := by
 unfold back fwd
 by_cases h1 : t < k
 ·simp [h1]
 ·have h2 : ¬ t - 1 < k := by omega
  simp only [h1, h2, if_false]
  omega
theorem rem_at {l : List Nod} {k t : Nat} {x : Nod} (h : t ≠ k) (hx : l[t]? = some x) : ∃ y, (rem l k)[fwd k t]? = some y ∧ y.o = x.o ∧ y.i = x.i := by
 rw [rem_get, back_fwd h, low_get, hx]
 refine ⟨_, rfl, ?_⟩
 split <;> exact ⟨rfl, rfl⟩
theorem rem_len {l : List Nod} {k : Nat} (hk : k < l.length) : (rem l k).length + 1 = l.length := by
 unfold rem
 rw [List.length_eraseIdx, low_len, if_pos hk]
 omega
theorem rem_gone {l : List Nod} (hO : Once l) {k : Nat} {p : Nod} (hp : l[k]? = some p) : idx (rem l k) p.o p.i = none := by
 cases e : idx (rem l k) p.o p.i with
 | none => rfl
 | some j =>
  obtain ⟨y, hy, h1, h2⟩ := idx_some e
  obtain ⟨z, hz, q1, q2⟩ := rem_slot hy
  exact absurd (hO _ _ _ _ hz hp (by omega) (by omega)) (back_ne k j)
theorem remove_eq {l : List Nod} (hO : Once l) {k : Nat} {p : Nod} (hp : l[k]? = some p) : removeA l p.o p.i = (rem l k, 0) := by
 unfold removeA
 rw [idx_self hO hp]
 rfl
def OwnR (W : World) (rb g : Nat) : Prop := ∃ v, W.cell? ⟨rb, 0, none⟩ = some v ∧ v.ownBlock = some g
structure OnlyR (rb : Nat) (w w' : World) : Prop where
 os : w'.os = w.os
 tape : w'.tape = w.tape
 output : w'.output = w.output
 size : w.heap.size ≤ w'.heap.size
 block : ∀ k, k < w.heap.size → k ≠ rb → w'.heap[k]? = w.heap[k]?
 own : rb < w.heap.size → ∀ g, OwnR w' rb g → OwnR w rb g ∨ w.heap.size ≤ g
theorem OnlyR.of_below {rb : Nat} {w w' : World} (h : Below w.heap.size w w') : OnlyR rb w w' := ⟨h.os, h.tape, h.output, h.size, fun k hk _ => h.block k hk, fun hr g ⟨v, e, q⟩ => .inl ⟨v, (h.cell (p := ⟨rb, 0, none⟩) hr).symm.trans e, q⟩⟩
theorem OnlyR.trans {rb : Nat} {a b c : World} (h : OnlyR rb a b) (k : OnlyR rb b c) : OnlyR rb a c :=
 ⟨k.os.trans h.os, k.tape.trans h.tape, k.output.trans h.output, Nat.le_trans h.size k.size, fun j h1 h2 => (k.block j (Nat.lt_of_lt_of_le h1 h.size) h2).trans (h.block j h1 h2), fun hr g q => (k.own (Nat.lt_of_lt_of_le hr h.size) g q).elim (h.own hr g) (fun q => .inr (Nat.le_trans h.size q))⟩
theorem RefT.store {w W : World} {rb : Nat} {v u : Value} {l l' : List Nod} (h : RefT w rb v l) (hb : Below w.heap.size w W) (hrow : W.ownsRow w.heap.size 44 3 u l'.length (nodsC l')) (hl : l'.length ≤ 1000) (hd : ∀ x ∈ l', -1000 ≤ x.d ∧ x.d ≤ 1000) :
  RefT (W.setCell ⟨rb, 0, none⟩ u) rb u l' ∧ OnlyR rb w (W.setCell ⟨rb, 0, none⟩ u) := by
 have hrl := (ags h.blk).1
 have hgr : ∀ g, u.ownBlock = some g → g ≠ rb := fun g hg e => by have := (hrow.lt g hg).1; omega
 have hbk : (W.setCell ⟨rb, 0, none⟩ u).heap[rb]? = some (.cells #[u] 85 (0, 0)) := Go.heap_setCell_same _ _ _ _ _ _ ((hb.block _ hrl).trans h.blk)
 refine ⟨⟨hbk, ?_, fun e => hgr rb e rfl, hl, hd⟩, hb.os, hb.tape, hb.output, by simp; exact hb.size, fun k hk hn => (Go.heap_setCell_other _ _ _ _ hn).trans (hb.block k hk), fun _ g ⟨v', e, q⟩ => .inr ?_⟩
 ·exact own_block (own_base hrow (Nat.zero_le _)) (fun g hg => Go.heap_setCell_other _ _ _ _ (hgr g hg))
 ·have := (cell_box hbk).1.symm.trans e
  cases this
  exact (hrow.lt g q).1
def remP (l : List Nod) (k i : Nat) : List Nod := ((low l k (belowN l k)).take i).eraseIdx k
theorem low_take_len (l : List Nod) (k c i : Nat) (h : i ≤ l.length) : ((low l k c).take i).length = i := by rw [List.length_take, low_len]; omega
theorem remP_skip {l : List Nod} {k : Nat} (h : k < l.length) : remP l k (k + 1) = remP l k k := by
 unfold remP
 apply List.ext_getElem?
 intro j
 have h1 := low_take_len l k (belowN l k) k (by omega)
 have h2 := low_take_len l k (belowN l k) (k + 1) (by omega)
 rw [del_back, del_back, List.getElem?_take, List.getElem?_take]
 unfold back
 by_cases hh : j < k
 ·simp [hh, show j < k + 1 by omega]
 ·simp [hh]; omega
theorem remP_step {l : List Nod} {k i : Nat} {z : Nod} (hk : k < l.length) (hne : i ≠ k) (hz : (low l k (belowN l k))[i]? = some z) : remP l k (i + 1) = remP l k i ++ [z] := by
 have hi := (lgs hz).1
 rw [low_len] at hi
 unfold remP
 rw [take_at hz]
 have hl := low_take_len l k (belowN l k) i (by omega)
 rcases Nat.lt_or_ge k i with h | h
 ·rw [List.eraseIdx_append_of_lt_length (by omega)]
 ·rw [List.eraseIdx_of_length_le (by simp; omega), List.eraseIdx_of_length_le (by omega)]
theorem remP_all {l : List Nod} {k : Nat} : remP l k l.length = rem l k := by
 unfold remP rem
 rw [List.take_of_length_le (by rw [low_len]; exact Nat.le_refl _)]
theorem remP_len {l : List Nod} {k i : Nat} (hi : i ≤ l.length) : (remP l k i).length ≤ i := by
 unfold remP
 exact Nat.le_trans (List.length_eraseIdx_le _ _) (by rw [low_take_len l k _ i hi]; exact Nat.le_refl _)
theorem news_at2 (w4 : World) (o : Obj) (cs : List Value) (t : TypeId) : ∀ j u, cs[j]? = some u → ((w4.alloc o).alloc (.cells cs.toArray t)).cell? ((⟨w4.heap.size + 1, 0, none⟩ : Addr).add j) = some u := by
 have := news_at (w4.alloc o) _ cs t rfl
 rwa [World.size_alloc] at this
theorem nodsC_snoc (l : List Nod) (x : Nod) : nodsC (l ++ [x]) = nodsC l ++ nodC x := by simp [nodsC]
theorem rem_bound {l : List Nod} {k : Nat} (h : ∀ x ∈ l, -1000 ≤ x.d ∧ x.d ≤ 1000) (hP : Dep l) : ∀ x ∈ rem l k, -1000 ≤ x.d ∧ x.d ≤ 1000 := by
 intro x hx
 obtain ⟨j, hj⟩ := List.getElem?_of_mem hx
 rw [rem_get, low_get] at hj
 obtain ⟨y, hy, e⟩ := Option.map_eq_some_iff.1 hj
 have h1 := h y (List.mem_of_getElem? hy)
 have h2 := hP.pos _ _ hy
 rw [← e]
 split
 ·show -1000 ≤ y.d - 1 ∧ y.d - 1 ≤ 1000
  omega
 ·exact h1
theorem rremove_any (w : World) (rb : Nat) (v : Value) (l : List Nod) (o i : Int) (h : RefT w rb v l) (hP : Dep l) :
  Calls Tryz.prog 93 #[.pointer (some ⟨rb, 0, none⟩), slV o i] w fun e w' => e = .returned (.int .i64 (removeA l o i).2) ∧ (∃ u, RefT w' rb u (removeA l o i).1) ∧ OnlyR rb w w' := by
 have hal : Below w.heap.size w (w.alloc (slO o i)) := bal (Below.refl _ _) _
 have HA := hid hal
 have HR := hid h
 unfold removeA
 cases hk : idx l o i with
 | none =>
  have hat : atI l o i = -1 := by unfold atI; rw [hk]
  have HAT := hid hat
  clear h hal hk hat
  go_enter Tryz.func93, Tryz.ntmps93
  go_wp2_with (go_at_call 95; with_reducible refine (rat_any _ rb v l o i (HR.out.call HA.out)).mono ?_; rw [HAT.out]; rintro e w1 ⟨rfl, hb1⟩)
  go_ret
  have hb := HA.out.trans (hb1.mono HA.out.size)
  exact ⟨rfl, ⟨_, HR.out.call hb⟩, .of_below hb⟩
 | some k =>
  obtain ⟨x, hx, hxs⟩ := idx_some hk
  have hkl := (lgs hx).1
  have hat : atI l o i = (k : Int) := by unfold atI; rw [hk]
  have HAT := hid hat
  have hle := h.le
  have HBD := hid h.dep
  obtain ⟨i0, hi0, hz0, hz1, hz2⟩ := info_parts infoNd
  have HI0 := hid hi0
  obtain ⟨g, c, rfl, hg, hgr, hc⟩ := h.getg (by omega)
  have HC := hid hc
  have HX := hid hx
  have HG := hid hg
  have hble := belowN_le hkl
  clear h hal hk hat hx hc hg hi0
  generalize hL : l.length = L at *
  have HL := hid hL
  clear hL
  have hkx : ¬ (k : Int) < 0 := by omega
  obtain ⟨E, hE⟩ : ∃ E, k + 1 + belowN l k = E := ⟨_, rfl⟩
  have HE := hid hE
  clear hE
  go_enter Tryz.func93, Tryz.ntmps93
  go_wp2_with (first
   | (go_at_call 95; with_reducible refine (rat_any _ rb _ l o i (HR.out.call HA.out)).mono ?_; rw [HAT.out]; rintro e w1 ⟨rfl, hb1⟩; have HB1 := hid (HA.out.trans (hb1.mono HA.out.size)); clear hb1)
   | (go_at_call 96; with_reducible refine (rend_any _ rb _ l k x (HR.out.call HB1.out) HX.out).mono ?_; rw [HE.out]; rintro e w2 ⟨rfl, hb2⟩; have HB2 := hid (HB1.out.trans (hb2.mono HB1.out.size)); clear hb2))
  go_loopw [7, 8] (fun u t wr => ∃ (j : Nat), j ≤ L ∧ t = .int .i64 (j : Int) ∧ Hid (wr.ownsRow w.heap.size 44 3 u (remP l k j).length (nodsC (remP l k j)) ∧ Below w.heap.size w wr)) (fun _ t _ => L - (intOf t).toNat)
  case atStart => exact ⟨0, by omega, by first | rfl | go_num, hid ⟨by simp [remP, nodsC]; exact World.ownsRow_nil _ _ _ _, HB2.out⟩⟩
  case round =>
   obtain ⟨j, hj, rfl, HST⟩ := hrel
   have hblk := (HR.out.call HST.out.2).blk
   obtain ⟨r0, rz⟩ := cell_box hblk
   have hrl := (ags hblk).1
   by_cases hjL : j < L
   ·have hLL := HL.out
    obtain ⟨y, hy⟩ : ∃ y, l[j]? = some y := ⟨l[j]'(by omega), List.getElem?_eq_getElem _⟩
    obtain ⟨y0, y1, y2⟩ := three_cells HG.out (HC.out j y hy) HST.out.2
    have hjL' : (j : Int) < L := by omega
    have hyb := HBD.out y (List.mem_of_getElem? hy)
    have HRL := hid (remP_len (l := l) (k := k) (i := j) (by omega))
    have HY := hid hy
    have hcb : (remP l k j).length ≤ 1000 := by have := HRL.out; omega
    clear hLL hy rz hblk
    by_cases hjk : j = k
    ·have HSK := hid (remP_skip (l := l) (k := k) (by have := HL.out; omega))
     have hjk' : ((j : Int) == (k : Int)) = true := by simp [hjk]
     have hgt : decide ((k : Int) < (j : Int)) = false := decide_eq_false (by omega)
     have hgt2 : decide (k < j) = false := decide_eq_false (by omega)
     have HJK := hid hjk
     clear hjk
     go_wp2
     go_roundw
     case rel =>
      have e := HJK.out
      refine ⟨j + 1, by omega, by go_num, hid ?_⟩
      have h1 := HST.out.1
      have h2 := HST.out.2
      rw [e] at h1
      rw [e, HSK.out]
      exact ⟨own_block h1 (fun g hg => Below.heap_alloc _ _ _ (h1.lt g hg).2), h2.alloc h2.size _⟩
     case measure => first | (simp [intOf]; done) | (simp [intOf]; omega)
    ·have hne : ((j : Int) == (k : Int)) = false := beq_eq_false_iff_ne.2 (by omega)
     by_cases hin : k < j ∧ j < E
     ·have hz : (low l k (belowN l k))[j]? = some { y with d := y.d - 1 } := by
       rw [low_get, HY.out]
       show some (if _ then _ else _) = _
       rw [if_pos ⟨hin.1, by have := HE.out; omega⟩]
      have HSTEP := hid (remP_step (by have := HL.out; omega) hjk hz)
      have hgt : decide ((k : Int) < (j : Int)) = true := decide_eq_true (by omega)
      have hgt2 : decide (k < j) = true := decide_eq_true (by omega)
      have hlt2 : decide ((j : Int) < (E : Int)) = true := decide_eq_true (by omega)
      have hlt3 : decide (j < E) = true := decide_eq_true (by omega)
      have hkj : k < j := hin.1
      have hjE : j < E := hin.2
      clear hz hin hjk
      go_wp2_with (at_builtin; refine wpList_append_own _ rfl _ _ 41 rfl w.heap.size 44 i0 (.agg #[.int .i64 0, .int .i64 0, .int .i64 0]) 3 24 Tryz.underlying41 HI0.out hz0 hz1 hz2 rfl (by decide) _ _ _ rfl ((HST.out.1.alloc _).alloc _) ⟨wr.heap.size + 1, 0, none⟩ 1 1 (nodC { y with d := y.d - 1 }) rfl rfl (news_at2 wr _ (nodC { y with d := y.d - 1 }) _) (by simp [Value.oneCell']) (by unfold maxLen; omega) (by omega) (by have := HST.out.2.size; simp; omega) ?_; intro u' w3 hown hgrow _; have HOW := hid hown; have HGR := hid hgrow; clear hown hgrow)
      go_roundw
      case rel =>
       refine ⟨j + 1, by omega, by go_num, hid ?_⟩
       rw [HSTEP.out, nodsC_snoc, List.length_append]
       refine ⟨HOW.out, ?_⟩
       exact ((HST.out.2.alloc HST.out.2.size _).alloc (Nat.le_trans HST.out.2.size (by simp)) _).grown HGR.out (by have := HST.out.2.size; simp; omega) (fun j ej => (HST.out.1.lt j ej).1)
      case measure => first | (simp [intOf]; done) | (simp [intOf]; omega)
     ·have hz : (low l k (belowN l k))[j]? = some y := by
       rw [low_out (by have := HE.out; omega)]
       exact HY.out
      have HSTEP := hid (remP_step (by have := HL.out; omega) hjk hz)
      by_cases hkj : k < j
      ·have hgt : decide ((k : Int) < (j : Int)) = true := decide_eq_true (by omega)
       have hgt2 : decide (k < j) = true := decide_eq_true (by omega)
       have hlt2 : decide ((j : Int) < (E : Int)) = false := decide_eq_false (by omega)
       have hlt3 : decide (j < E) = false := decide_eq_false (by omega)
       have hjE : ¬ j < E := by omega
       clear hz hin hjk
       go_wp2_with (at_builtin; refine wpList_append_own _ rfl _ _ 41 rfl w.heap.size 44 i0 (.agg #[.int .i64 0, .int .i64 0, .int .i64 0]) 3 24 Tryz.underlying41 HI0.out hz0 hz1 hz2 rfl (by decide) _ _ _ rfl ((HST.out.1.alloc _).alloc _) ⟨wr.heap.size + 1, 0, none⟩ 1 1 (nodC y) rfl rfl (news_at2 wr _ (nodC y) _) (by simp [Value.oneCell']) (by unfold maxLen; omega) (by omega) (by have := HST.out.2.size; simp; omega) ?_; intro u' w3 hown hgrow _; have HOW := hid hown; have HGR := hid hgrow; clear hown hgrow)
       go_roundw
       case rel =>
        refine ⟨j + 1, by omega, by go_num, hid ?_⟩
        rw [HSTEP.out, nodsC_snoc, List.length_append]
        refine ⟨HOW.out, ?_⟩
        exact ((HST.out.2.alloc HST.out.2.size _).alloc (Nat.le_trans HST.out.2.size (by simp)) _).grown HGR.out (by have := HST.out.2.size; simp; omega) (fun j ej => (HST.out.1.lt j ej).1)
       case measure => first | (simp [intOf]; done) | (simp [intOf]; omega)
      ·have hgt : decide ((k : Int) < (j : Int)) = false := decide_eq_false (by omega)
       have hgt2 : decide (k < j) = false := decide_eq_false (by omega)
       clear hz hin hjk
       go_wp2_with (at_builtin; refine wpList_append_own _ rfl _ _ 41 rfl w.heap.size 44 i0 (.agg #[.int .i64 0, .int .i64 0, .int .i64 0]) 3 24 Tryz.underlying41 HI0.out hz0 hz1 hz2 rfl (by decide) _ _ _ rfl ((HST.out.1.alloc _).alloc _) ⟨wr.heap.size + 1, 0, none⟩ 1 1 (nodC y) rfl rfl (news_at2 wr _ (nodC y) _) (by simp [Value.oneCell']) (by unfold maxLen; omega) (by omega) (by have := HST.out.2.size; simp; omega) ?_; intro u' w3 hown hgrow _; have HOW := hid hown; have HGR := hid hgrow; clear hown hgrow)
       go_roundw
       case rel =>
        refine ⟨j + 1, by omega, by go_num, hid ?_⟩
        rw [HSTEP.out, nodsC_snoc, List.length_append]
        refine ⟨HOW.out, ?_⟩
        exact ((HST.out.2.alloc HST.out.2.size _).alloc (Nat.le_trans HST.out.2.size (by simp)) _).grown HGR.out (by have := HST.out.2.size; simp; omega) (fun j ej => (HST.out.1.lt j ej).1)
       case measure => first | (simp [intOf]; done) | (simp [intOf]; omega)
   ·have hjE : j = L := by omega
    have hfull := HST.out.1
    have hHL := HL.out
    rw [hjE, ← hHL, remP_all] at hfull
    have hlen2 : (rem l k).length ≤ 1000 := by have := rem_len (l := l) (k := k) (by omega); omega
    have HFIN := hid (HR.out.store HST.out.2 hfull hlen2 (rem_bound HBD.out hP))
    have hjL' : ¬ (j : Int) < L := by omega
    obtain ⟨a9, c9, hu⟩ := (nodes_row HST.out.1).form
    clear hfull hHL hblk hjE
    subst hu
    go_wp2
    go_ret
    exact ⟨rfl, ⟨_, HFIN.out.1⟩, HFIN.out.2⟩
theorem nodsC_len : ∀ l : List Nod, (nodsC l).length = l.length * 3
 | [] => rfl
 | x :: l => by
  have := nodsC_len l
  show (nodC x ++ nodsC l).length = _
  rw [List.length_append, this]
  simp; omega
theorem nodsC_set : ∀ (l : List Nod) (k : Nat) (x : Nod) (o i : Int), l[k]? = some x → ((nodsC l).set (k * 3) (.int .i64 o)).set (k * 3 + 1) (.int .i64 i) = nodsC (l.set k ⟨o, i, x.d⟩)
 | [], k, x, o, i, h => by simp at h
 | y :: l, 0, x, o, i, h => by simp at h; subst h; rfl
 | y :: l, k + 1, x, o, i, h => by
  have := nodsC_set l k x o i (by simpa using h)
  have e : nodsC (y :: l) = .int .i64 y.o :: .int .i64 y.i :: .int .i64 y.d :: nodsC l := rfl
  have e2 : nodsC ((y :: l).set (k + 1) ⟨o, i, x.d⟩) = .int .i64 y.o :: .int .i64 y.i :: .int .i64 y.d :: nodsC (l.set k ⟨o, i, x.d⟩) := rfl
  rw [e, e2, ← this, show (k + 1) * 3 = k * 3 + 1 + 1 + 1 by omega]
  rfl
theorem rset {w W : World} {rb g c k : Nat} {l : List Nod} {x : Nod} (o i : Int) (h : RefT W rb (.slice (some ⟨g, 0, none⟩) l.length c) l) (hx : l[k]? = some x) (hO : OnlyR rb w W) (hg : w.heap.size ≤ g) :
  RefT ((W.setCell ⟨g, k * 3, none⟩ (.int .i64 o)).setCell ⟨g, k * 3 + 1, none⟩ (.int .i64 i)) rb (.slice (some ⟨g, 0, none⟩) l.length c) (l.set k ⟨o, i, x.d⟩) ∧
  OnlyR rb w ((W.setCell ⟨g, k * 3, none⟩ (.int .i64 o)).setCell ⟨g, k * 3 + 1, none⟩ (.int .i64 i)) := by
 have hne : rb ≠ g := fun e => h.ne (by rw [e]; rfl)
 refine ⟨⟨(Go.heap_setCell_other _ _ _ _ hne).trans ((Go.heap_setCell_other _ _ _ _ hne).trans h.blk), ?_, h.ne, by rw [List.length_set]; exact h.le, fun y hy => ?_⟩, hO.os, hO.tape, hO.output, by simp; exact hO.size, fun q hq hn => ?_, fun hr q ⟨v', e, z⟩ => hO.own hr q ⟨v', (World.cell?_of_block ((Go.heap_setCell_other _ _ _ _ hne).trans (Go.heap_setCell_other _ _ _ _ hne))).symm.trans e, z⟩⟩
 ·rw [List.length_set]
  rcases h.row.2 with ⟨e, _⟩ | ⟨g', cap, cur, e, q1, q2, q3, q4, q5, q6⟩
  ·cases e
  ·cases e
   have hk := (lgs hx).1
   have b1 := Go.heap_setCell_same _ _ (k * 3) _ _ (.int .i64 o) q2
   have b2 := Go.heap_setCell_same _ _ (k * 3 + 1) _ _ (.int .i64 i) b1
   refine ⟨by rw [nodsC_len, List.length_set], .inr ⟨g, c, _, rfl, Nat.zero_le _, b2, q3, q4, by simp [q5], ?_⟩⟩
   rw [Array.toList_setIfInBounds, Array.toList_setIfInBounds, List.take_set, List.take_set, q6]
   exact nodsC_set l k x o i hx
 ·rcases List.mem_or_eq_of_mem_set hy with q | q
  ·exact h.dep y q
  ·rw [q]; exact h.dep x (List.mem_of_getElem? hx)
 ·have : q ≠ g := by omega
  exact (Go.heap_setCell_other _ _ _ _ this).trans ((Go.heap_setCell_other _ _ _ _ this).trans (hO.block q hq hn))
theorem rcopied {w W w3 : World} {rb : Nat} {v u : Value} {l : List Nod} (h : RefT w rb v l) (hb : Below w.heap.size w W) (hown : w3.ownsRow w.heap.size 44 3 u (0 + l.length) ([] ++ nodsC l)) (hg : W.grownBy w3 none) :
  RefT (w3.setCell ⟨rb, 0, none⟩ u) rb u l ∧ OnlyR rb w (w3.setCell ⟨rb, 0, none⟩ u) := by
 rw [Nat.zero_add, List.nil_append] at hown
 exact h.store (hb.grown hg hb.size (fun k e => by cases e)) hown h.le h.dep
theorem row_news {W : World} {rb g c : Nat} {l : List Nod} {n : Nat} (h : RefT W rb (.slice (some ⟨g, 0, none⟩) n c) l) : ∀ j u, (nodsC l)[j]? = some u → W.cell? ((⟨g, 0, none⟩ : Addr).add j) = some u := fun j u hj => h.row.cells (g := g) rfl j u hj
theorem nods_one {l : List Nod} : ∀ u ∈ nodsC l, u.oneCell' = true := by
 intro u hu
 unfold nodsC at hu
 obtain ⟨x, _, hx⟩ := List.mem_flatMap.1 hu
 simp at hx
 rcases hx with rfl | rfl | rfl <;> rfl
theorem swap_set1 {l : List Nod} (hO : Once l) {k : Nat} {x : Nod} {o i p j : Int} (hx : l[k]? = some x) (he : x.o = o ∧ x.i = i) (hn : idx l p j = none) : l.set k ⟨p, j, x.d⟩ = swapA l o i p j := by
 unfold swapA
 apply List.ext_getElem?
 intro q
 rw [List.getElem?_set, List.getElem?_map]
 by_cases hq : k = q
 ·subst hq
  rw [if_pos rfl, if_pos (lgs hx).1, hx]
  show _ = some (sw o i p j x)
  unfold sw
  rw [if_pos he]
 ·rw [if_neg hq]
  cases hy : l[q]? with
  | none => rfl
  | some y =>
   show _ = some (sw o i p j y)
   unfold sw
   rw [if_neg (fun e => hq (hO _ _ _ _ hx hy (by omega) (by omega))), if_neg (fun e => idx_none hn hy e)]
theorem bx2 (w : World) (o i p j : Int) : Bx ((w.alloc (slO o i)).alloc (slO p j)) w.heap.size o i ∧ Bx ((w.alloc (slO o i)).alloc (slO p j)) (w.heap.size + 1) p j := by
 have h := Bx.fresh (w.alloc (slO o i)) p j
 rw [World.size_alloc] at h
 exact ⟨(Bx.fresh w o i).call (bal (Below.refl _ _) _), h⟩
theorem bx_same {W W' : World} {s : Nat} {o i : Int} (h : Bx W s o i) (e : W'.heap[s]? = W.heap[s]?) (hz : W.heap.size ≤ W'.heap.size) : Bx W' s o i := by
 have hb := e.trans h.blk
 refine ⟨?_, ?_, fun k => Go.frozen_of_row _ _ _ _ _ hb, Nat.lt_of_lt_of_le h.lt hz, hb⟩ <;> (unfold World.cell?; simp only [hb]; rfl)
theorem rslot_cells {W : World} {rb g c n k : Nat} {l : List Nod} {x : Nod} (h : RefT W rb (.slice (some ⟨g, 0, none⟩) n c) l) (hx : l[k]? = some x) : W.cell? ⟨g, k * 3, none⟩ = some (.int .i64 x.o) ∧ W.cell? ⟨g, k * 3 + 1, none⟩ = some (.int .i64 x.i) ∧ (∀ j, W.frozen? ⟨g, j, none⟩ = false) ∧ g < W.heap.size ∧ g ≠ rb := by
 have e : ∀ j, ((⟨g, 0, none⟩ : Addr).add j) = ⟨g, j, none⟩ := fun j => by unfold Addr.add; split <;> simp_all
 obtain ⟨a1, a2, _⟩ := nodsC_get l k x hx
 have b1 := row_news h _ _ a1
 have b2 := row_news h _ _ a2
 rw [e] at b1 b2
 refine ⟨b1, b2, ?_, (h.row.lt g rfl).2, fun q => h.ne (by rw [← q]; rfl)⟩
 rcases h.row.2 with ⟨q, _⟩ | ⟨g', cap, cur, q, q1, q2, _⟩
 ·cases q
 ·cases q
  exact fun j => Go.frozen_of_row _ _ _ _ _ q2
theorem bx_copied {W w3 : World} {rb s : Nat} {o i : Int} {u : Value} (h : Bx W s o i) (hg : W.grownBy w3 none) (hs : s ≠ rb) : Bx (w3.setCell ⟨rb, 0, none⟩ u) s o i := by
 refine bx_same h ((Go.heap_setCell_other _ _ _ _ hs).trans (hg.block _ h.lt (by simp))) (by simp; exact hg.size)
theorem row_form3 {w : World} {base : Nat} {e : TypeId} {s : Nat} {v : Value} {n : Nat} {xs : List Value} (h : w.ownsRow base e s v n xs) (h0 : 0 < n) : ∃ g cap, v = .slice (some ⟨g, 0, none⟩) n cap ∧ base ≤ g := by
 rcases h.2 with ⟨_, h⟩ | ⟨g, cap, cur, rfl, hg, _⟩
 ·omega
 ·exact ⟨g, cap, rfl, hg⟩
theorem rmove_any (w : World) (rb : Nat) (v : Value) (l : List Nod) (o i p j : Int) (h : RefT w rb v l) (hO : Once l) :
  Calls Tryz.prog 90 #[.pointer (some ⟨rb, 0, none⟩), slV o i, slV p j] w fun e w' => e = .returned (.int .i64 (moveA l o i p j).2) ∧ (∃ u, RefT w' rb u (moveA l o i p j).1) ∧ OnlyR rb w w' := by
 have hal : Below w.heap.size w ((w.alloc (slO o i)).alloc (slO p j)) := bal (bal (Below.refl _ _) _) _
 have HA := hid hal
 have HR := hid h
 have HBX := hid (bx2 w o i p j)
 unfold moveA
 cases hk : idx l o i with
 | none =>
  have hat : atI l o i = -1 := by unfold atI; rw [hk]
  have HAT := hid hat
  simp only [Option.isSome_none, Bool.false_eq_true, if_false]
  clear h hal hk hat
  go_enter Tryz.func90, Tryz.ntmps90
  go_wp2_with (go_at_call 95; with_reducible refine (rat_any _ rb v l o i (HR.out.call HA.out)).mono ?_; rw [HAT.out]; rintro e w1 ⟨rfl, hb1⟩)
  go_ret
  have hb := HA.out.trans (hb1.mono HA.out.size)
  exact ⟨rfl, ⟨_, HR.out.call hb⟩, .of_below hb⟩
 | some k =>
  obtain ⟨x, hx, hxs⟩ := idx_some hk
  have hkl := (lgs hx).1
  have hat : atI l o i = (k : Int) := by unfold atI; rw [hk]
  have HAT := hid hat
  have hle := h.le
  simp only [Option.isSome_some, if_true]
  have hkx : ¬ (k : Int) < 0 := by omega
  have hrl := (ags h.blk).1
  cases hk2 : idx l p j with
  | some k2 =>
   have hat2 : atI l p j = (k2 : Int) := by unfold atI; rw [hk2]
   have HAT2 := hid hat2
   simp only [Option.isSome_some, if_true]
   have hk2x : (0 : Int) ≤ k2 := by omega
   clear h hal hk hat hx hk2 hat2
   go_enter Tryz.func90, Tryz.ntmps90
   go_wp2_with (first
    | (go_at_call 95; with_reducible refine (rat_any _ rb v l p j (HR.out.call HB1.out)).mono ?_; rw [HAT2.out]; rintro e w2 ⟨rfl, hb2⟩; have HB2 := hid (HB1.out.trans (hb2.mono HB1.out.size)))
    | (go_at_call 95; with_reducible refine (rat_any _ rb v l o i (HR.out.call HA.out)).mono ?_; rw [HAT.out]; rintro e w1 ⟨rfl, hb1⟩; have HB1 := hid (HA.out.trans (hb1.mono HA.out.size)); obtain ⟨b0, b1, bz, bl, bb⟩ := HBX.out.2.call hb1; clear hb1 bb bz))
   go_ret
   exact ⟨rfl, ⟨_, HR.out.call HB2.out⟩, .of_below HB2.out⟩
  | none =>
   have hat2 : atI l p j = -1 := by unfold atI; rw [hk2]
   have HAT2 := hid hat2
   simp only [Option.isSome_none, Bool.false_eq_true, if_false]
   obtain ⟨i0, hi0, hz0, hz1, hz2⟩ := info_parts infoNd
   have HI0 := hid hi0
   obtain ⟨g, c, rfl, hg, hgr, hc⟩ := h.getg (by omega)
   have HSW := hid (swap_set1 hO hx hxs hk2)
   have HX := hid hx
   have HHK := hid (show 0 < l.length ∧ k < l.length ∧ l.length ≤ 1000 from ⟨by omega, hkl, hle⟩)
   have HLN := hid (nodsC_len l)
   clear h hal hk hat hx hk2 hat2 hc hi0
   go_enter Tryz.func90, Tryz.ntmps90
   go_upto_region 7 with (first
    | (go_at_call 95; with_reducible refine (rat_any _ rb _ l p j (HR.out.call HB1.out)).mono ?_; rw [HAT2.out]; rintro e w2 ⟨rfl, hb2⟩; have HB2 := hid (HB1.out.trans (hb2.mono HB1.out.size)); have HBX2 := hid ((HBX.out.2.call HB1A.out).call hb2); obtain ⟨r0, rz⟩ := cell_box (HR.out.call HB2.out).blk; have HCB := hid (row_news (HR.out.call HB2.out)); clear hb2)
    | (go_at_call 95; with_reducible refine (rat_any _ rb _ l o i (HR.out.call HA.out)).mono ?_; rw [HAT.out]; rintro e w1 ⟨rfl, hb1⟩; have HB1A := hid hb1; have HB1 := hid (HA.out.trans (hb1.mono HA.out.size)); obtain ⟨b0, b1, bz, bl, bb⟩ := HBX.out.2.call hb1; clear hb1 bb bz)
    | (at_builtin; refine wpList_append_own _ rfl _ _ 41 rfl w.heap.size 44 i0 (.agg #[.int .i64 0, .int .i64 0, .int .i64 0]) 3 24 Tryz.underlying41 HI0.out hz0 hz1 hz2 rfl (by decide) (.slice none 0 0) 0 [] rfl (World.ownsRow_nil _ _ _ _) ⟨g, 0, none⟩ l.length c (nodsC l) rfl HLN.out HCB.out nods_one (by unfold maxLen; omega) (by omega) HB2.out.size ?_; intro u' w3 hown hgrow _; obtain ⟨g3, c3, rfl, hg3⟩ := row_form3 hown (by omega); have HOW := hid hown; have HGR := hid hgrow; obtain ⟨m0, mz⟩ := cell_box ((hgrow.block _ (Nat.lt_of_lt_of_le hrl HB2.out.size) (by simp [Value.ownBlock])).trans (HR.out.call HB2.out).blk); clear hown hgrow))
   have hcp := rcopied HR.out HB2.out HOW.out HGR.out
   rw [Nat.zero_add] at hcp
   have hbx4 := bx_copied (rb := rb) (u := .slice (some ⟨g3, 0, none⟩) l.length c3) HBX2.out HGR.out (by omega)
   obtain ⟨w4, hw4⟩ : ∃ w4, w4 = w3.setCell ⟨rb, 0, none⟩ (.slice (some ⟨g3, 0, none⟩) l.length c3) := ⟨_, rfl⟩
   (try rw [Nat.zero_add])
   rw [← hw4] at hcp hbx4 ⊢
   obtain ⟨d0, d1, dz, dl, db⟩ := hbx4
   obtain ⟨n0, nz⟩ := cell_box hcp.1.blk
   obtain ⟨e0, e1, ez, el, en⟩ := rslot_cells hcp.1 HX.out
   have hen : rb ≠ g3 := fun q => en q.symm
   have HFIN := hid (rset p j hcp.1 HX.out hcp.2 hg3)
   have hkl2 := HHK.out.2.1
   have hkl3 : (k : Int) < l.length := by omega
   have hk0 : (0 : Int) ≤ k := by omega
   clear hw4 hcp m0 mz r0 rz db nz b0 b1
   go_region
   all_goals
    go_wp2
    go_ret
    rw [← HSW.out]
    exact ⟨rfl, ⟨_, HFIN.out.1.call (Below.refl _ _).drew⟩, HFIN.out.2.trans (OnlyR.of_below (Below.refl _ _).drew)⟩
theorem swap_set0 {l : List Nod} {o i p j : Int} (h1 : idx l o i = none) (h2 : idx l p j = none) : swapA l o i p j = l := by
 unfold swapA
 apply List.ext_getElem?
 intro q
 rw [List.getElem?_map]
 cases hy : l[q]? with
 | none => rfl
 | some y =>
  show some (sw o i p j y) = some y
  unfold sw
  rw [if_neg (fun e => idx_none h1 hy e), if_neg (fun e => idx_none h2 hy e)]
theorem swap_set2 {l : List Nod} (hO : Once l) {k r : Nat} {x y : Nod} {o i p j : Int} (hx : l[k]? = some x) (he : x.o = o ∧ x.i = i) (hy : l[r]? = some y) (hf : y.o = p ∧ y.i = j) :
  ∃ z, (l.set k ⟨p, j, x.d⟩)[r]? = some z ∧ (l.set k ⟨p, j, x.d⟩).set r ⟨o, i, z.d⟩ = swapA l o i p j := by
 have hk := (lgs hx).1
 have hr := (lgs hy).1
 obtain ⟨z, hz, hzd⟩ : ∃ z, (l.set k ⟨p, j, x.d⟩)[r]? = some z ∧ z.d = y.d := by
  rw [List.getElem?_set]
  by_cases h : k = r
  ·subst h
   rw [hx] at hy
   cases hy
   rw [if_pos rfl, if_pos hk]
   exact ⟨_, rfl, rfl⟩
  ·rw [if_neg h]
   exact ⟨y, hy, rfl⟩
 refine ⟨z, hz, ?_⟩
 unfold swapA
 apply List.ext_getElem?
 intro q
 rw [List.getElem?_set, List.getElem?_map]
 by_cases h1 : r = q
 ·subst h1
  rw [if_pos rfl, if_pos (by rw [List.length_set]; exact hr), hy, hzd]
  show _ = some (sw o i p j y)
  unfold sw
  by_cases h2 : y.o = o ∧ y.i = i
  ·rw [if_pos h2]
   obtain ⟨a, b⟩ := h2
   obtain ⟨c, d⟩ := hf
   rw [← a, ← b, c, d]
  ·rw [if_neg h2, if_pos hf]
 ·rw [if_neg h1, List.getElem?_set]
  by_cases h2 : k = q
  ·subst h2
   rw [if_pos rfl, if_pos hk, hx]
   show _ = some (sw o i p j x)
   unfold sw
   rw [if_pos he]
  ·rw [if_neg h2]
   cases hu : l[q]? with
   | none => rfl
   | some u =>
    show _ = some (sw o i p j u)
    unfold sw
    rw [if_neg (fun e => h2 (hO _ _ _ _ hx hu (by omega) (by omega))), if_neg (fun e => h1 (hO _ _ _ _ hy hu (by omega) (by omega)))]
theorem bx_all {W : World} {s : Nat} {o i : Int} (h : Bx W s o i) : W.cell? ⟨s, 0, none⟩ = some (.int .i64 o) ∧ W.cell? ⟨s, 1, none⟩ = some (.int .i64 i) ∧ s < W.heap.size := ⟨h.c0, h.c1, h.lt⟩
theorem row_ne_bx {W : World} {rb g n c s : Nat} {l : List Nod} {o i : Int} (h : RefT W rb (.slice (some ⟨g, 0, none⟩) n c) l) (hb : Bx W s o i) : s ≠ g := by
 rintro rfl
 rcases h.row.2 with ⟨q, _⟩ | ⟨g', cap, cur, q, _, q2, _⟩
 ·cases q
 ·cases q
  have := hb.blk.symm.trans q2
  unfold slO at this
  injection this with e
  injection e with e1 e2 e3
  exact absurd e2 (by decide)
theorem nil_form {W : World} {base : Nat} {e : TypeId} {s : Nat} {v : Value} {n : Nat} {xs : List Value} (h : W.ownsRow base e s v (0 + n) xs) : ∃ a c, v = .slice a n c := by
 rcases h.2 with ⟨rfl, h⟩ | ⟨g, cap, cur, rfl, hg, _⟩
 ·obtain rfl : n = 0 := by omega
  exact ⟨_, _, rfl⟩
 ·rw [Nat.zero_add]
  exact ⟨_, _, rfl⟩
theorem rswap_0n (w : World) (rb : Nat) (o i p j : Int) (h : RefT w rb (.slice none 0 0) []) :
  Calls Tryz.prog 92 #[.pointer (some ⟨rb, 0, none⟩), slV o i, slV p j] w fun e w' => e = .returned (.tuple #[]) ∧ (∃ u, RefT w' rb u (swapA [] o i p j)) ∧ OnlyR rb w w' := by
 have hal : Below w.heap.size w ((w.alloc (slO o i)).alloc (slO p j)) := bal (bal (Below.refl _ _) _) _
 have HA := hid hal
 have HR := hid h
 have HBX := hid (bx2 w o i p j)
 have hrl := (ags h.blk).1
 have HAT := hid (show atI [] o i = -1 by rfl)
 have HAT2 := hid (show atI [] p j = -1 by rfl)
 clear h hal
 go_enter Tryz.func92, Tryz.ntmps92
 go_upto_region 1 with (fail)
 obtain ⟨wA, hwA⟩ : ∃ x, x = (w.alloc (slO o i)).alloc (slO p j) := ⟨_, rfl⟩
 rw [show (w.alloc (.cells #[.int .i64 o, .int .i64 i] 30)).alloc (.cells #[.int .i64 p, .int .i64 j] 30) = wA from hwA.symm]
 have HAA : Hid (Below w.heap.size w wA) := hid (hwA ▸ HA.out)
 have HBA : Hid (Bx wA w.heap.size o i ∧ Bx wA (w.heap.size + 1) p j) := hid (hwA ▸ HBX.out)
 have HRD := hid ((HR.out.call HAA.out).call (Below.refl _ _).drew)
 obtain ⟨a0, a1, al⟩ := bx_all HBA.out.1
 obtain ⟨b0, b1, bl⟩ := bx_all HBA.out.2
 clear hwA HA HBX
 go_region_held3 (fun w' => w'.cell? ⟨w.heap.size, 0, none⟩ = some (.int .i64 o) ∧ w'.cell? ⟨w.heap.size, 1, none⟩ = some (.int .i64 i) ∧ w'.cell? ⟨w.heap.size + 1, 0, none⟩ = some (.int .i64 p) ∧ w'.cell? ⟨w.heap.size + 1, 1, none⟩ = some (.int .i64 j))
  (first | exact ⟨e0, e1, f0, f1⟩ | exact ⟨c0, c1, d0, d1⟩ | exact ⟨a0, a1, b0, b1⟩)
  (first
   | (go_at_call 95; with_reducible refine (rat_any _ rb _ [] p j HR2.out).mono ?_; rw [HAT2.out]; rintro e w3 ⟨rfl, hb3⟩; have HB3 := hid (HB2.out.trans (hb3.mono HB2.out.size)); obtain ⟨e0, e1, el⟩ := bx_all (HBX2.out.1.call hb3); obtain ⟨f0, f1, fl⟩ := bx_all (HBX2.out.2.call hb3); clear hb3)
   | (go_at_call 95; with_reducible refine (rat_any _ rb _ [] o i HRD.out).mono ?_; rw [HAT.out]; rintro e w2 ⟨rfl, hb2⟩; have HR2 := hid (HRD.out.call hb2); have HB2 := hid (HAA.out.drew.trans (hb2.mono HAA.out.drew.size)); have HBX2 := hid (And.intro ((HBA.out.1.call (Below.refl _ _).drew).call hb2) ((HBA.out.2.call (Below.refl _ _).drew).call hb2)); obtain ⟨c0, c1, cl⟩ := bx_all ((HBA.out.1.call (Below.refl _ _).drew).call hb2); obtain ⟨d0, d1, dl⟩ := bx_all ((HBA.out.2.call (Below.refl _ _).drew).call hb2); clear hb2))
 all_goals
  obtain ⟨r0, rz⟩ := cell_box (HR.out.call HB3.out).blk
  clear a0 a1 b0 b1
  (try clear c0 c1 d0 d1)
  (try clear e0 e1 f0 f1)
  have HST := hid (HR.out.store (l' := []) (u := .slice none 0 0) HB3.out (World.ownsRow_nil _ _ _ _) (by simp) (by simp))
  go_wp2
  go_end0
  exact ⟨rfl, ⟨_, HST.out.1⟩, HST.out.2⟩
theorem rswap_0s (w : World) (rb : Nat) (g c : Nat) (o i p j : Int) (h : RefT w rb (.slice (some ⟨g, 0, none⟩) 0 c) []) :
  Calls Tryz.prog 92 #[.pointer (some ⟨rb, 0, none⟩), slV o i, slV p j] w fun e w' => e = .returned (.tuple #[]) ∧ (∃ u, RefT w' rb u (swapA [] o i p j)) ∧ OnlyR rb w w' := by
 have hal : Below w.heap.size w ((w.alloc (slO o i)).alloc (slO p j)) := bal (bal (Below.refl _ _) _) _
 have HA := hid hal
 have HR := hid h
 have HBX := hid (bx2 w o i p j)
 have hrl := (ags h.blk).1
 have HAT := hid (show atI [] o i = -1 by rfl)
 have HAT2 := hid (show atI [] p j = -1 by rfl)
 obtain ⟨i0, hi0, hz0, hz1, hz2⟩ := info_parts infoNd
 have HI0 := hid hi0
 clear hi0
 clear h hal
 go_enter Tryz.func92, Tryz.ntmps92
 go_upto_region 1 with (fail)
 obtain ⟨wA, hwA⟩ : ∃ x, x = (w.alloc (slO o i)).alloc (slO p j) := ⟨_, rfl⟩
 rw [show (w.alloc (.cells #[.int .i64 o, .int .i64 i] 30)).alloc (.cells #[.int .i64 p, .int .i64 j] 30) = wA from hwA.symm]
 have HAA : Hid (Below w.heap.size w wA) := hid (hwA ▸ HA.out)
 have HBA : Hid (Bx wA w.heap.size o i ∧ Bx wA (w.heap.size + 1) p j) := hid (hwA ▸ HBX.out)
 have HRD := hid ((HR.out.call HAA.out).call (Below.refl _ _).drew)
 obtain ⟨a0, a1, al⟩ := bx_all HBA.out.1
 obtain ⟨b0, b1, bl⟩ := bx_all HBA.out.2
 clear hwA HA HBX
 go_region_held3 (fun w' => w'.cell? ⟨w.heap.size, 0, none⟩ = some (.int .i64 o) ∧ w'.cell? ⟨w.heap.size, 1, none⟩ = some (.int .i64 i) ∧ w'.cell? ⟨w.heap.size + 1, 0, none⟩ = some (.int .i64 p) ∧ w'.cell? ⟨w.heap.size + 1, 1, none⟩ = some (.int .i64 j))
  (first | exact ⟨e0, e1, f0, f1⟩ | exact ⟨c0, c1, d0, d1⟩ | exact ⟨a0, a1, b0, b1⟩)
  (first
   | (go_at_call 95; with_reducible refine (rat_any _ rb _ [] p j HR2.out).mono ?_; rw [HAT2.out]; rintro e w3 ⟨rfl, hb3⟩; have HB3 := hid (HB2.out.trans (hb3.mono HB2.out.size)); obtain ⟨e0, e1, el⟩ := bx_all (HBX2.out.1.call hb3); obtain ⟨f0, f1, fl⟩ := bx_all (HBX2.out.2.call hb3); clear hb3)
   | (go_at_call 95; with_reducible refine (rat_any _ rb _ [] o i HRD.out).mono ?_; rw [HAT.out]; rintro e w2 ⟨rfl, hb2⟩; have HR2 := hid (HRD.out.call hb2); have HB2 := hid (HAA.out.drew.trans (hb2.mono HAA.out.drew.size)); have HBX2 := hid (And.intro ((HBA.out.1.call (Below.refl _ _).drew).call hb2) ((HBA.out.2.call (Below.refl _ _).drew).call hb2)); obtain ⟨c0, c1, cl⟩ := bx_all ((HBA.out.1.call (Below.refl _ _).drew).call hb2); obtain ⟨d0, d1, dl⟩ := bx_all ((HBA.out.2.call (Below.refl _ _).drew).call hb2); clear hb2))
 all_goals
  obtain ⟨r0, rz⟩ := cell_box (HR.out.call HB3.out).blk
  clear a0 a1 b0 b1
  (try clear c0 c1 d0 d1)
  (try clear e0 e1 f0 f1)
  have HCB := hid (row_news (HR.out.call HB3.out))
  go_wp2_with (at_builtin; refine wpList_append_own _ rfl _ _ 41 rfl w.heap.size 44 i0 (.agg #[.int .i64 0, .int .i64 0, .int .i64 0]) 3 24 Tryz.underlying41 HI0.out hz0 hz1 hz2 rfl (by decide) (.slice none 0 0) 0 [] rfl (World.ownsRow_nil _ _ _ _) ⟨g, 0, none⟩ 0 c (nodsC []) rfl rfl HCB.out nods_one (by unfold maxLen; omega) (by omega) HB3.out.size ?_; intro u' w4 hown hgrow _; have HST := hid (rcopied HR.out HB3.out hown hgrow); obtain ⟨a3, c3, hu⟩ : ∃ a c, u' = .slice a 0 c := nil_form hown; subst hu; obtain ⟨m0, mz⟩ := cell_box ((hgrow.block _ (Nat.lt_of_lt_of_le hrl HB3.out.size) (by simp [Value.ownBlock])).trans (HR.out.call HB3.out).blk); clear hown hgrow)
  go_end0
  exact ⟨rfl, ⟨_, HST.out.1⟩, HST.out.2⟩
theorem rswap_nn (w : World) (rb : Nat) (v : Value) (l : List Nod) (o i p j : Int) (h : RefT w rb v l) (hO : Once l) (h0 : 0 < l.length) (hk : idx l o i = none) (hq : idx l p j = none) :
  Calls Tryz.prog 92 #[.pointer (some ⟨rb, 0, none⟩), slV o i, slV p j] w fun e w' => e = .returned (.tuple #[]) ∧ (∃ u, RefT w' rb u (swapA l o i p j)) ∧ OnlyR rb w w' := by
 have hal : Below w.heap.size w ((w.alloc (slO o i)).alloc (slO p j)) := bal (bal (Below.refl _ _) _) _
 have HA := hid hal
 have HR := hid h
 have HBX := hid (bx2 w o i p j)
 have hle := h.le
 have hrl := (ags h.blk).1
 have HAT := hid (show atI l o i = -1 by unfold atI; rw [hk])
 have HAT2 := hid (show atI l p j = -1 by unfold atI; rw [hq])
 obtain ⟨i0, hi0, hz0, hz1, hz2⟩ := info_parts infoNd
 have HI0 := hid hi0
 obtain ⟨g, c, rfl, hg, hgr, hc⟩ := h.getg h0
 have HLN := hid (nodsC_len l)
 have HSW := hid (swap_set0 hk hq)
 clear h hal hk hq hc hi0
 go_enter Tryz.func92, Tryz.ntmps92
 go_upto_region 1 with (fail)
 obtain ⟨wA, hwA⟩ : ∃ x, x = (w.alloc (slO o i)).alloc (slO p j) := ⟨_, rfl⟩
 rw [show (w.alloc (.cells #[.int .i64 o, .int .i64 i] 30)).alloc (.cells #[.int .i64 p, .int .i64 j] 30) = wA from hwA.symm]
 have HAA : Hid (Below w.heap.size w wA) := hid (hwA ▸ HA.out)
 have HBA : Hid (Bx wA w.heap.size o i ∧ Bx wA (w.heap.size + 1) p j) := hid (hwA ▸ HBX.out)
 have HRD := hid ((HR.out.call HAA.out).call (Below.refl _ _).drew)
 obtain ⟨a0, a1, al⟩ := bx_all HBA.out.1
 obtain ⟨b0, b1, bl⟩ := bx_all HBA.out.2
 clear hwA HA HBX
 go_region_held3 (fun w' => w'.cell? ⟨w.heap.size, 0, none⟩ = some (.int .i64 o) ∧ w'.cell? ⟨w.heap.size, 1, none⟩ = some (.int .i64 i) ∧ w'.cell? ⟨w.heap.size + 1, 0, none⟩ = some (.int .i64 p) ∧ w'.cell? ⟨w.heap.size + 1, 1, none⟩ = some (.int .i64 j))
  (first | exact ⟨e0, e1, f0, f1⟩ | exact ⟨c0, c1, d0, d1⟩ | exact ⟨a0, a1, b0, b1⟩)
  (first
   | (go_at_call 95; with_reducible refine (rat_any _ rb _ l p j HR2.out).mono ?_; rw [HAT2.out]; rintro e w3 ⟨rfl, hb3⟩; have HB3 := hid (HB2.out.trans (hb3.mono HB2.out.size)); obtain ⟨e0, e1, el⟩ := bx_all (HBX2.out.1.call hb3); obtain ⟨f0, f1, fl⟩ := bx_all (HBX2.out.2.call hb3); have HBX3 := hid (And.intro (HBX2.out.1.call hb3) (HBX2.out.2.call hb3)); clear hb3)
   | (go_at_call 95; with_reducible refine (rat_any _ rb _ l o i HRD.out).mono ?_; rw [HAT.out]; rintro e w2 ⟨rfl, hb2⟩; have HR2 := hid (HRD.out.call hb2); have HB2 := hid (HAA.out.drew.trans (hb2.mono HAA.out.drew.size)); have HBX2 := hid (And.intro ((HBA.out.1.call (Below.refl _ _).drew).call hb2) ((HBA.out.2.call (Below.refl _ _).drew).call hb2)); obtain ⟨c0, c1, cl⟩ := bx_all ((HBA.out.1.call (Below.refl _ _).drew).call hb2); obtain ⟨d0, d1, dl⟩ := bx_all ((HBA.out.2.call (Below.refl _ _).drew).call hb2); clear hb2))
 all_goals
  obtain ⟨r0, rz⟩ := cell_box (HR.out.call HB3.out).blk
  have HCB := hid (row_news (HR.out.call HB3.out))
  clear a0 a1 b0 b1
  (try clear c0 c1 d0 d1)
  (try clear e0 e1 f0 f1)
  go_wp2_with (at_builtin; refine wpList_append_own _ rfl _ _ 41 rfl w.heap.size 44 i0 (.agg #[.int .i64 0, .int .i64 0, .int .i64 0]) 3 24 Tryz.underlying41 HI0.out hz0 hz1 hz2 rfl (by decide) (.slice none 0 0) 0 [] rfl (World.ownsRow_nil _ _ _ _) ⟨g, 0, none⟩ l.length c (nodsC l) rfl HLN.out HCB.out nods_one (by unfold maxLen; omega) (by omega) HB3.out.size ?_; intro u' w4 hown hgrow _; obtain ⟨g3, c3, rfl, hg3⟩ := row_form3 hown (by omega); have HOW := hid hown; have HGR := hid hgrow; obtain ⟨m0, mz⟩ := cell_box ((hgrow.block _ (Nat.lt_of_lt_of_le hrl HB3.out.size) (by simp [Value.ownBlock])).trans (HR.out.call HB3.out).blk); clear hown hgrow)
  have hcp := rcopied HR.out HB3.out HOW.out HGR.out
  rw [Nat.zero_add] at hcp
  (try rw [Nat.zero_add])
  go_end0
  rw [HSW.out]
  exact ⟨rfl, ⟨_, hcp.1⟩, hcp.2⟩
theorem rswap_sn (w : World) (rb : Nat) (v : Value) (l : List Nod) (o i p j : Int) (h : RefT w rb v l) (hO : Once l) (h0 : 0 < l.length) {k : Nat} {x : Nod} (hk : idx l o i = some k) (hx : l[k]? = some x) (hxs : x.o = o ∧ x.i = i) (hq : idx l p j = none) :
  Calls Tryz.prog 92 #[.pointer (some ⟨rb, 0, none⟩), slV o i, slV p j] w fun e w' => e = .returned (.tuple #[]) ∧ (∃ u, RefT w' rb u (swapA l o i p j)) ∧ OnlyR rb w w' := by
 have hal : Below w.heap.size w ((w.alloc (slO o i)).alloc (slO p j)) := bal (bal (Below.refl _ _) _) _
 have HA := hid hal
 have HR := hid h
 have HBX := hid (bx2 w o i p j)
 have hle := h.le
 have hrl := (ags h.blk).1
 have HAT := hid (show atI l o i = (k : Int) by unfold atI; rw [hk])
 have HAT2 := hid (show atI l p j = -1 by unfold atI; rw [hq])
 obtain ⟨i0, hi0, hz0, hz1, hz2⟩ := info_parts infoNd
 have HI0 := hid hi0
 obtain ⟨g, c, rfl, hg, hgr, hc⟩ := h.getg h0
 have HLN := hid (nodsC_len l)
 have HSW := hid (swap_set1 hO hx hxs hq)
 have hkl := (lgs hx).1
 have HKL := hid (show k < l.length from hkl)
 have HX := hid hx
 have hk1 : (0 : Int) ≤ k := by omega
 clear h hal hk hq hc hi0 hx hkl
 go_enter Tryz.func92, Tryz.ntmps92
 go_upto_region 1 with (fail)
 obtain ⟨wA, hwA⟩ : ∃ x, x = (w.alloc (slO o i)).alloc (slO p j) := ⟨_, rfl⟩
 rw [show (w.alloc (.cells #[.int .i64 o, .int .i64 i] 30)).alloc (.cells #[.int .i64 p, .int .i64 j] 30) = wA from hwA.symm]
 have HAA : Hid (Below w.heap.size w wA) := hid (hwA ▸ HA.out)
 have HBA : Hid (Bx wA w.heap.size o i ∧ Bx wA (w.heap.size + 1) p j) := hid (hwA ▸ HBX.out)
 have HRD := hid ((HR.out.call HAA.out).call (Below.refl _ _).drew)
 obtain ⟨a0, a1, al⟩ := bx_all HBA.out.1
 obtain ⟨b0, b1, bl⟩ := bx_all HBA.out.2
 clear hwA HA HBX
 go_region_held3 (fun w' => w'.cell? ⟨w.heap.size, 0, none⟩ = some (.int .i64 o) ∧ w'.cell? ⟨w.heap.size, 1, none⟩ = some (.int .i64 i) ∧ w'.cell? ⟨w.heap.size + 1, 0, none⟩ = some (.int .i64 p) ∧ w'.cell? ⟨w.heap.size + 1, 1, none⟩ = some (.int .i64 j))
  (first | exact ⟨e0, e1, f0, f1⟩ | exact ⟨c0, c1, d0, d1⟩ | exact ⟨a0, a1, b0, b1⟩)
  (first
   | (go_at_call 95; with_reducible refine (rat_any _ rb _ l p j HR2.out).mono ?_; rw [HAT2.out]; rintro e w3 ⟨rfl, hb3⟩; have HB3 := hid (HB2.out.trans (hb3.mono HB2.out.size)); obtain ⟨e0, e1, el⟩ := bx_all (HBX2.out.1.call hb3); obtain ⟨f0, f1, fl⟩ := bx_all (HBX2.out.2.call hb3); have HBX3 := hid (And.intro (HBX2.out.1.call hb3) (HBX2.out.2.call hb3)); clear hb3)
   | (go_at_call 95; with_reducible refine (rat_any _ rb _ l o i HRD.out).mono ?_; rw [HAT.out]; rintro e w2 ⟨rfl, hb2⟩; have HR2 := hid (HRD.out.call hb2); have HB2 := hid (HAA.out.drew.trans (hb2.mono HAA.out.drew.size)); have HBX2 := hid (And.intro ((HBA.out.1.call (Below.refl _ _).drew).call hb2) ((HBA.out.2.call (Below.refl _ _).drew).call hb2)); obtain ⟨c0, c1, cl⟩ := bx_all ((HBA.out.1.call (Below.refl _ _).drew).call hb2); obtain ⟨d0, d1, dl⟩ := bx_all ((HBA.out.2.call (Below.refl _ _).drew).call hb2); clear hb2))
 all_goals
  obtain ⟨r0, rz⟩ := cell_box (HR.out.call HB3.out).blk
  have HCB := hid (row_news (HR.out.call HB3.out))
  clear a0 a1 b0 b1
  (try clear c0 c1 d0 d1)
  (try clear e0 e1 f0 f1)
  go_wp2_with (at_builtin; refine wpList_append_own _ rfl _ _ 41 rfl w.heap.size 44 i0 (.agg #[.int .i64 0, .int .i64 0, .int .i64 0]) 3 24 Tryz.underlying41 HI0.out hz0 hz1 hz2 rfl (by decide) (.slice none 0 0) 0 [] rfl (World.ownsRow_nil _ _ _ _) ⟨g, 0, none⟩ l.length c (nodsC l) rfl HLN.out HCB.out nods_one (by unfold maxLen; omega) (by omega) HB3.out.size ?_; intro u' w4 hown hgrow _; obtain ⟨g3, c3, rfl, hg3⟩ := row_form3 hown (by omega); have HOW := hid hown; have HGR := hid hgrow; obtain ⟨m0, mz⟩ := cell_box ((hgrow.block _ (Nat.lt_of_lt_of_le hrl HB3.out.size) (by simp [Value.ownBlock])).trans (HR.out.call HB3.out).blk); clear hown hgrow)
  have hcp := rcopied HR.out HB3.out HOW.out HGR.out
  rw [Nat.zero_add] at hcp
  have HBX4 := hid (And.intro (bx_copied (rb := rb) (u := .slice (some ⟨g3, 0, none⟩) l.length c3) HBX3.out.1 HGR.out (by omega)) (bx_copied (rb := rb) (u := .slice (some ⟨g3, 0, none⟩) l.length c3) HBX3.out.2 HGR.out (by omega)))
  obtain ⟨w5, hw5⟩ : ∃ x, x = w4.setCell ⟨rb, 0, none⟩ (.slice (some ⟨g3, 0, none⟩) l.length c3) := ⟨_, rfl⟩
  (try rw [Nat.zero_add])
  rw [← hw5] at hcp HBX4 ⊢
  have HCP := hid hcp
  clear hw5 hcp m0 mz r0 rz
  obtain ⟨n0, nz⟩ := cell_box HCP.out.1.blk
  obtain ⟨q0, q1, qz, ql, qn⟩ := rslot_cells HCP.out.1 HX.out
  obtain ⟨s0, s1, sl⟩ := bx_all HBX4.out.2
  have hen : rb ≠ g3 := fun q => qn q.symm
  have HST := hid (rset p j HCP.out.1 HX.out HCP.out.2 hg3)
  have hkl2 := HKL.out
  have hkl3 : (k : Int) < l.length := by omega
  go_wp2
  go_region
  all_goals
   go_wp2
   go_end0
   rw [← HSW.out]
   exact ⟨rfl, ⟨_, HST.out.1.call (Below.refl _ _).drew⟩, HST.out.2.trans (OnlyR.of_below (Below.refl _ _).drew)⟩
theorem rswap_ns (w : World) (rb : Nat) (v : Value) (l : List Nod) (o i p j : Int) (h : RefT w rb v l) (hO : Once l) (h0 : 0 < l.length) (hk : idx l o i = none) {r : Nat} {y : Nod} (hq : idx l p j = some r) (hy : l[r]? = some y) (hys : y.o = p ∧ y.i = j) :
  Calls Tryz.prog 92 #[.pointer (some ⟨rb, 0, none⟩), slV o i, slV p j] w fun e w' => e = .returned (.tuple #[]) ∧ (∃ u, RefT w' rb u (swapA l o i p j)) ∧ OnlyR rb w w' := by
 have hal : Below w.heap.size w ((w.alloc (slO o i)).alloc (slO p j)) := bal (bal (Below.refl _ _) _) _
 have HA := hid hal
 have HR := hid h
 have HBX := hid (bx2 w o i p j)
 have hle := h.le
 have hrl := (ags h.blk).1
 have HAT := hid (show atI l o i = -1 by unfold atI; rw [hk])
 have HAT2 := hid (show atI l p j = (r : Int) by unfold atI; rw [hq])
 obtain ⟨i0, hi0, hz0, hz1, hz2⟩ := info_parts infoNd
 have HI0 := hid hi0
 obtain ⟨g, c, rfl, hg, hgr, hc⟩ := h.getg h0
 have HLN := hid (nodsC_len l)
 have HSW := hid (swap_set1 hO hy hys hk)
 rw [swapA_comm l o i p j] at HSW
 have hrr := (lgs hy).1
 have HRL := hid (show r < l.length from hrr)
 have HY := hid hy
 have hr1 : (0 : Int) ≤ r := by omega
 clear h hal hk hq hc hi0 hy hrr
 go_enter Tryz.func92, Tryz.ntmps92
 go_upto_region 1 with (fail)
 obtain ⟨wA, hwA⟩ : ∃ x, x = (w.alloc (slO o i)).alloc (slO p j) := ⟨_, rfl⟩
 rw [show (w.alloc (.cells #[.int .i64 o, .int .i64 i] 30)).alloc (.cells #[.int .i64 p, .int .i64 j] 30) = wA from hwA.symm]
 have HAA : Hid (Below w.heap.size w wA) := hid (hwA ▸ HA.out)
 have HBA : Hid (Bx wA w.heap.size o i ∧ Bx wA (w.heap.size + 1) p j) := hid (hwA ▸ HBX.out)
 have HRD := hid ((HR.out.call HAA.out).call (Below.refl _ _).drew)
 obtain ⟨a0, a1, al⟩ := bx_all HBA.out.1
 obtain ⟨b0, b1, bl⟩ := bx_all HBA.out.2
 clear hwA HA HBX
 go_region_held3 (fun w' => w'.cell? ⟨w.heap.size, 0, none⟩ = some (.int .i64 o) ∧ w'.cell? ⟨w.heap.size, 1, none⟩ = some (.int .i64 i) ∧ w'.cell? ⟨w.heap.size + 1, 0, none⟩ = some (.int .i64 p) ∧ w'.cell? ⟨w.heap.size + 1, 1, none⟩ = some (.int .i64 j))
  (first | exact ⟨e0, e1, f0, f1⟩ | exact ⟨c0, c1, d0, d1⟩ | exact ⟨a0, a1, b0, b1⟩)
  (first
   | (go_at_call 95; with_reducible refine (rat_any _ rb _ l p j HR2.out).mono ?_; rw [HAT2.out]; rintro e w3 ⟨rfl, hb3⟩; have HB3 := hid (HB2.out.trans (hb3.mono HB2.out.size)); obtain ⟨e0, e1, el⟩ := bx_all (HBX2.out.1.call hb3); obtain ⟨f0, f1, fl⟩ := bx_all (HBX2.out.2.call hb3); have HBX3 := hid (And.intro (HBX2.out.1.call hb3) (HBX2.out.2.call hb3)); clear hb3)
   | (go_at_call 95; with_reducible refine (rat_any _ rb _ l o i HRD.out).mono ?_; rw [HAT.out]; rintro e w2 ⟨rfl, hb2⟩; have HR2 := hid (HRD.out.call hb2); have HB2 := hid (HAA.out.drew.trans (hb2.mono HAA.out.drew.size)); have HBX2 := hid (And.intro ((HBA.out.1.call (Below.refl _ _).drew).call hb2) ((HBA.out.2.call (Below.refl _ _).drew).call hb2)); obtain ⟨c0, c1, cl⟩ := bx_all ((HBA.out.1.call (Below.refl _ _).drew).call hb2); obtain ⟨d0, d1, dl⟩ := bx_all ((HBA.out.2.call (Below.refl _ _).drew).call hb2); clear hb2))
 all_goals
  obtain ⟨r0, rz⟩ := cell_box (HR.out.call HB3.out).blk
  have HCB := hid (row_news (HR.out.call HB3.out))
  clear a0 a1 b0 b1
  (try clear c0 c1 d0 d1)
  (try clear e0 e1 f0 f1)
  go_wp2_with (at_builtin; refine wpList_append_own _ rfl _ _ 41 rfl w.heap.size 44 i0 (.agg #[.int .i64 0, .int .i64 0, .int .i64 0]) 3 24 Tryz.underlying41 HI0.out hz0 hz1 hz2 rfl (by decide) (.slice none 0 0) 0 [] rfl (World.ownsRow_nil _ _ _ _) ⟨g, 0, none⟩ l.length c (nodsC l) rfl HLN.out HCB.out nods_one (by unfold maxLen; omega) (by omega) HB3.out.size ?_; intro u' w4 hown hgrow _; obtain ⟨g3, c3, rfl, hg3⟩ := row_form3 hown (by omega); have HOW := hid hown; have HGR := hid hgrow; obtain ⟨m0, mz⟩ := cell_box ((hgrow.block _ (Nat.lt_of_lt_of_le hrl HB3.out.size) (by simp [Value.ownBlock])).trans (HR.out.call HB3.out).blk); clear hown hgrow)
  have hcp := rcopied HR.out HB3.out HOW.out HGR.out
  rw [Nat.zero_add] at hcp
  have HBX4 := hid (And.intro (bx_copied (rb := rb) (u := .slice (some ⟨g3, 0, none⟩) l.length c3) HBX3.out.1 HGR.out (by omega)) (bx_copied (rb := rb) (u := .slice (some ⟨g3, 0, none⟩) l.length c3) HBX3.out.2 HGR.out (by omega)))
  obtain ⟨w5, hw5⟩ : ∃ x, x = w4.setCell ⟨rb, 0, none⟩ (.slice (some ⟨g3, 0, none⟩) l.length c3) := ⟨_, rfl⟩
  (try rw [Nat.zero_add])
  rw [← hw5] at hcp HBX4 ⊢
  have HCP := hid hcp
  clear hw5 hcp m0 mz r0 rz
  obtain ⟨n0, nz⟩ := cell_box HCP.out.1.blk
  obtain ⟨q0, q1, qz, ql, qn⟩ := rslot_cells HCP.out.1 HY.out
  obtain ⟨s0, s1, sl⟩ := bx_all HBX4.out.1
  have hen : rb ≠ g3 := fun q => qn q.symm
  have HST := hid (rset o i HCP.out.1 HY.out HCP.out.2 hg3)
  have hrl2 := HRL.out
  have hrl3 : (r : Int) < l.length := by omega
  go_wp2
  go_region
  all_goals
   go_wp2
   go_end0
   rw [← HSW.out]
   exact ⟨rfl, ⟨_, HST.out.1.call (Below.refl _ _).drew⟩, HST.out.2.trans (OnlyR.of_below (Below.refl _ _).drew)⟩
theorem rswap_ss (w : World) (rb : Nat) (v : Value) (l : List Nod) (o i p j : Int) (h : RefT w rb v l) (hO : Once l) (h0 : 0 < l.length) {k : Nat} {x : Nod} (hk : idx l o i = some k) (hx : l[k]? = some x) (hxs : x.o = o ∧ x.i = i) {r : Nat} {y : Nod} (hq : idx l p j = some r) (hy : l[r]? = some y) (hys : y.o = p ∧ y.i = j) :
  Calls Tryz.prog 92 #[.pointer (some ⟨rb, 0, none⟩), slV o i, slV p j] w fun e w' => e = .returned (.tuple #[]) ∧ (∃ u, RefT w' rb u (swapA l o i p j)) ∧ OnlyR rb w w' := by
 have hal : Below w.heap.size w ((w.alloc (slO o i)).alloc (slO p j)) := bal (bal (Below.refl _ _) _) _
 have HA := hid hal
 have HR := hid h
 have HBX := hid (bx2 w o i p j)
 have hle := h.le
 have hrl := (ags h.blk).1
 have HAT := hid (show atI l o i = (k : Int) by unfold atI; rw [hk])
 have HAT2 := hid (show atI l p j = (r : Int) by unfold atI; rw [hq])
 obtain ⟨i0, hi0, hz0, hz1, hz2⟩ := info_parts infoNd
 have HI0 := hid hi0
 obtain ⟨g, c, rfl, hg, hgr, hc⟩ := h.getg h0
 have HLN := hid (nodsC_len l)
 obtain ⟨z, hz, hzz⟩ := swap_set2 hO hx hxs hy hys
 have HSW := hid hzz
 have HZ := hid hz
 clear hz hzz
 have hkl := (lgs hx).1
 have HKL := hid (show k < l.length from hkl)
 have HX := hid hx
 have hk1 : (0 : Int) ≤ k := by omega
 have hrr := (lgs hy).1
 have HRL := hid (show r < l.length from hrr)
 have HY := hid hy
 have hr1 : (0 : Int) ≤ r := by omega
 clear h hal hk hq hc hi0 hx hkl hy hrr
 go_enter Tryz.func92, Tryz.ntmps92
 go_upto_region 1 with (fail)
 obtain ⟨wA, hwA⟩ : ∃ x, x = (w.alloc (slO o i)).alloc (slO p j) := ⟨_, rfl⟩
 rw [show (w.alloc (.cells #[.int .i64 o, .int .i64 i] 30)).alloc (.cells #[.int .i64 p, .int .i64 j] 30) = wA from hwA.symm]
 have HAA : Hid (Below w.heap.size w wA) := hid (hwA ▸ HA.out)
 have HBA : Hid (Bx wA w.heap.size o i ∧ Bx wA (w.heap.size + 1) p j) := hid (hwA ▸ HBX.out)
 have HRD := hid ((HR.out.call HAA.out).call (Below.refl _ _).drew)
 obtain ⟨a0, a1, al⟩ := bx_all HBA.out.1
 obtain ⟨b0, b1, bl⟩ := bx_all HBA.out.2
 clear hwA HA HBX
 go_region_held3 (fun w' => w'.cell? ⟨w.heap.size, 0, none⟩ = some (.int .i64 o) ∧ w'.cell? ⟨w.heap.size, 1, none⟩ = some (.int .i64 i) ∧ w'.cell? ⟨w.heap.size + 1, 0, none⟩ = some (.int .i64 p) ∧ w'.cell? ⟨w.heap.size + 1, 1, none⟩ = some (.int .i64 j))
  (first | exact ⟨e0, e1, f0, f1⟩ | exact ⟨c0, c1, d0, d1⟩ | exact ⟨a0, a1, b0, b1⟩)
  (first
   | (go_at_call 95; with_reducible refine (rat_any _ rb _ l p j HR2.out).mono ?_; rw [HAT2.out]; rintro e w3 ⟨rfl, hb3⟩; have HB3 := hid (HB2.out.trans (hb3.mono HB2.out.size)); obtain ⟨e0, e1, el⟩ := bx_all (HBX2.out.1.call hb3); obtain ⟨f0, f1, fl⟩ := bx_all (HBX2.out.2.call hb3); have HBX3 := hid (And.intro (HBX2.out.1.call hb3) (HBX2.out.2.call hb3)); clear hb3)
   | (go_at_call 95; with_reducible refine (rat_any _ rb _ l o i HRD.out).mono ?_; rw [HAT.out]; rintro e w2 ⟨rfl, hb2⟩; have HR2 := hid (HRD.out.call hb2); have HB2 := hid (HAA.out.drew.trans (hb2.mono HAA.out.drew.size)); have HBX2 := hid (And.intro ((HBA.out.1.call (Below.refl _ _).drew).call hb2) ((HBA.out.2.call (Below.refl _ _).drew).call hb2)); obtain ⟨c0, c1, cl⟩ := bx_all ((HBA.out.1.call (Below.refl _ _).drew).call hb2); obtain ⟨d0, d1, dl⟩ := bx_all ((HBA.out.2.call (Below.refl _ _).drew).call hb2); clear hb2))
 all_goals
  obtain ⟨r0, rz⟩ := cell_box (HR.out.call HB3.out).blk
  have HCB := hid (row_news (HR.out.call HB3.out))
  clear a0 a1 b0 b1
  (try clear c0 c1 d0 d1)
  (try clear e0 e1 f0 f1)
  go_wp2_with (at_builtin; refine wpList_append_own _ rfl _ _ 41 rfl w.heap.size 44 i0 (.agg #[.int .i64 0, .int .i64 0, .int .i64 0]) 3 24 Tryz.underlying41 HI0.out hz0 hz1 hz2 rfl (by decide) (.slice none 0 0) 0 [] rfl (World.ownsRow_nil _ _ _ _) ⟨g, 0, none⟩ l.length c (nodsC l) rfl HLN.out HCB.out nods_one (by unfold maxLen; omega) (by omega) HB3.out.size ?_; intro u' w4 hown hgrow _; obtain ⟨g3, c3, rfl, hg3⟩ := row_form3 hown (by omega); have HOW := hid hown; have HGR := hid hgrow; obtain ⟨m0, mz⟩ := cell_box ((hgrow.block _ (Nat.lt_of_lt_of_le hrl HB3.out.size) (by simp [Value.ownBlock])).trans (HR.out.call HB3.out).blk); clear hown hgrow)
  have hcp := rcopied HR.out HB3.out HOW.out HGR.out
  rw [Nat.zero_add] at hcp
  have HBX4 := hid (And.intro (bx_copied (rb := rb) (u := .slice (some ⟨g3, 0, none⟩) l.length c3) HBX3.out.1 HGR.out (by omega)) (bx_copied (rb := rb) (u := .slice (some ⟨g3, 0, none⟩) l.length c3) HBX3.out.2 HGR.out (by omega)))
  obtain ⟨w5, hw5⟩ : ∃ x, x = w4.setCell ⟨rb, 0, none⟩ (.slice (some ⟨g3, 0, none⟩) l.length c3) := ⟨_, rfl⟩
  (try rw [Nat.zero_add])
  rw [← hw5] at hcp HBX4 ⊢
  have HCP := hid hcp
  clear hw5 hcp m0 mz r0 rz
  obtain ⟨n0, nz⟩ := cell_box HCP.out.1.blk
  obtain ⟨q0, q1, qz, ql, qn⟩ := rslot_cells HCP.out.1 HX.out
  obtain ⟨s0, s1, sl⟩ := bx_all HBX4.out.2
  have hen : rb ≠ g3 := fun q => qn q.symm
  have HST := hid (rset p j HCP.out.1 HX.out HCP.out.2 hg3)
  have hkl2 := HKL.out
  have hkl3 : (k : Int) < l.length := by omega
  go_wp2
  go_region
  all_goals
   go_wp2
   have hlen : (l.set k ⟨p, j, x.d⟩).length = l.length := List.length_set
   have HBX5 := hid ((bx_same (bx_same HBX4.out.1 (Go.heap_setCell_other w5 ⟨g3, k * 3, none⟩ _ (.int .i64 p) (row_ne_bx HCP.out.1 HBX4.out.1)) (by simp)) (Go.heap_setCell_other _ ⟨g3, k * 3 + 1, none⟩ _ (.int .i64 j) (row_ne_bx HCP.out.1 HBX4.out.1)) (by simp)).call (Below.refl _ _).drew)
   have HS5 := hid (And.intro (HST.out.1.call (Below.refl _ _).drew) (HST.out.2.trans (OnlyR.of_below (Below.refl _ _).drew)))
   obtain ⟨w6, hw6⟩ : ∃ q, q = ((w5.setCell ⟨g3, k * 3, none⟩ (.int .i64 p)).setCell ⟨g3, k * 3 + 1, none⟩ (.int .i64 j)).drew := ⟨_, rfl⟩
   rw [← hw6] at HS5 HBX5
   rw [← hw6]
   obtain ⟨l2, hl2⟩ : ∃ q, q = l.set k ⟨p, j, x.d⟩ := ⟨_, rfl⟩
   rw [← hl2] at HS5 hlen HZ HSW
   clear hw6 hl2 HST n0 q0 q1 s0 s1 qz
   rw [← hlen] at HS5
   obtain ⟨n0, nz⟩ := cell_box HS5.out.1.blk
   obtain ⟨q0, q1, qz, ql2, qn2⟩ := rslot_cells HS5.out.1 HZ.out
   obtain ⟨s0, s1, sl2_TrSd⟩ := bx_all HBX5.out
   have HST2 := hid (rset o i HS5.out.1 HZ.out HS5.out.2 hg3)
   rw [hlen] at n0
   have hrl2 := HRL.out
   have hrl3 : (r : Int) < l.length := by omega
   clear hlen
   go_region
   all_goals
    go_wp2
    go_end0
    rw [← HSW.out]
    exact ⟨rfl, ⟨_, HST2.out.1.call (Below.refl _ _).drew⟩, HST2.out.2.trans (OnlyR.of_below (Below.refl _ _).drew)⟩
theorem rswap_any (w : World) (rb : Nat) (v : Value) (l : List Nod) (o i p j : Int) (h : RefT w rb v l) (hO : Once l) :
  Calls Tryz.prog 92 #[.pointer (some ⟨rb, 0, none⟩), slV o i, slV p j] w fun e w' => e = .returned (.tuple #[]) ∧ (∃ u, RefT w' rb u (swapA l o i p j)) ∧ OnlyR rb w w' := by
 rcases l with _ | ⟨a, l⟩
 ·rcases h.row.2 with ⟨rfl, _⟩ | ⟨g, cap, cur, rfl, _⟩
  ·exact rswap_0n w rb o i p j h
  ·exact rswap_0s w rb g cap o i p j h
 ·have h0 : 0 < (a :: l).length := by simp
  cases hk : idx (a :: l) o i with
  | none =>
   cases hq : idx (a :: l) p j with
   | none => exact rswap_nn w rb v _ o i p j h hO h0 hk hq
   | some r =>
    obtain ⟨y, hy, hys⟩ := idx_some hq
    exact rswap_ns w rb v _ o i p j h hO h0 hk hq hy hys
  | some k =>
   obtain ⟨x, hx, hxs⟩ := idx_some hk
   cases hq : idx (a :: l) p j with
   | none => exact rswap_sn w rb v _ o i p j h hO h0 hk hx hxs hq
   | some r =>
    obtain ⟨y, hy, hys⟩ := idx_some hq
    exact rswap_ss w rb v _ o i p j h hO h0 hk hx hxs hq hy hys
end
end Go.Proofs.YtchjfeafkmpmbaaGreatDoor
