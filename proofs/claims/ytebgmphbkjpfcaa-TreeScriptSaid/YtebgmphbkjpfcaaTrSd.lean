/- lists of slots compared; what was answered is written over. -/
import Derived.Test.YtebgmphbkjpfcaaTrSc
namespace Go.Proofs.Ytebgmphbkjpfcaa
set_option linter.unusedVariables false
set_option linter.unusedSimpArgs false
open Go.ChangeShapes Go.WideShapes Go.ChangeAt Go.RowKit Go.Shelf

theorem slots_form {W : World} {v : Value} {l : List Nod} (h : SlotsAt W v l) : ∃ a c, v = .slice a l.length c := by
  rcases h with ⟨rfl, rfl⟩ | ⟨g, c, rfl, _⟩
  · exact ⟨none, 0, rfl⟩
  · exact ⟨_, c, rfl⟩
def sl2 (x : Nod) : Int × Int := (x.o, x.i)
set_option maxRecDepth 100000 in
theorem same_slots (w : World) (u v : Value) (l r : List Nod) (hu : SlotsAt w u l) (hv : SlotsAt w v r) (hn : l.length < 1000000) (hr : r.length < 1000000) :
    Calls Try.prog 19 #[u, v] w fun e w' => e = .returned (.bool (decide (l.map sl2 = r.map sl2))) ∧ ∃ j, w' = w.drewN j := by
  by_cases hl : l.length = r.length
  · rcases hu with ⟨rfl, rfl⟩ | ⟨g, c, rfl, hg, hcg⟩
    · have hr0 : r = [] := List.length_eq_zero_iff.1 hl.symm
      subst hr0
      obtain ⟨a, c, rfl⟩ := (slots_form hv)
      go_enter Try.func19, Try.ntmps19
      go_wp2
      refine wp_loop_rounds 1 ?_
      rw [rounds_succ]
      go_wp2
      go_ret
      exact ⟨rfl, 0, rfl⟩
    · rcases hv with ⟨rfl, rfl⟩ | ⟨q, d, rfl, hq, hcq⟩
      · have hr0 : l = [] := List.length_eq_zero_iff.1 hl
        subst hr0
        go_enter Try.func19, Try.ntmps19
        go_wp2
        refine wp_loop_rounds 1 ?_
        rw [rounds_succ]
        go_wp2
        go_ret
        exact ⟨rfl, 0, rfl⟩
      · have HG := Lib.hid hcg
        have HQ := Lib.hid hcq
        clear hcg hcq
        rw [← hl]
        generalize hN : l.length = N at *
        go_enter Try.func19, Try.ntmps19
        go_wp2
        go_loopw [5] (fun i wr => ∃ k : Nat, k ≤ N ∧ i = .int .i64 k ∧ (∃ j, wr = w.drewN j) ∧ Hid ((l.take k).map sl2 = (r.take k).map sl2)) (fun i _ => N - (intOf i).toNat)
        case atStart => exact ⟨0, by omega, rfl, ⟨0, rfl⟩, Lib.hid (by simp)⟩
        case round =>
          obtain ⟨k, hk, rfl, ⟨j, rfl⟩, HE⟩ := hrel
          by_cases hlt : k < N
          · obtain ⟨x, hx⟩ : ∃ x, l[k]? = some x := ⟨l[k]'(by omega), List.getElem?_eq_getElem _⟩
            obtain ⟨y, hy⟩ : ∃ y, r[k]? = some y := ⟨r[k]'(by omega), List.getElem?_eq_getElem _⟩
            obtain ⟨x0, x1⟩ := HG.out k x hx
            obtain ⟨y0, y1⟩ := HQ.out k y hy
            have hne := neS x.o x.i y.o y.i
            have hlt' : (k : Int) < N := by omega
            have HX := Lib.hid hx
            have HY := Lib.hid hy
            clear hx hy
            by_cases hxy : x.o = y.o ∧ x.i = y.i
            · simp only [hxy, and_self, decide_true, Bool.not_true] at hne
              rw [hxy.1] at x0
              rw [hxy.2] at x1
              have HXY := Lib.hid hxy
              clear hxy
              go_wp2
              go_quiet (fail)
              go_wp2
              go_roundw
              case rel => exact ⟨k + 1, by omega, by go_num, ⟨_, rfl⟩, Lib.hid (by rw [List.take_add_one, List.take_add_one, HX.out, HY.out, List.map_append, List.map_append, HE.out]; simp [sl2, HXY.out])⟩
              case measure => simp [intOf]; omega
            · simp only [hxy, decide_false, Bool.not_false] at hne
              have hlr : ¬ l.map sl2 = r.map sl2 := fun e => hxy (by
                have h1 : (l.map sl2)[k]? = some (sl2 x) := by rw [List.getElem?_map, HX.out]; rfl
                have h2 : (r.map sl2)[k]? = some (sl2 y) := by rw [List.getElem?_map, HY.out]; rfl
                rw [e, h2] at h1
                injection h1 with h1
                injection h1 with e1 e2
                exact ⟨e1.symm, e2.symm⟩)
              go_wp2
              go_quiet (fail)
              go_wp2
              go_ret
              rw [decide_eq_false hlr]
              exact ⟨rfl, _, World.drewN_drewN _ _ _⟩
          · have hkN : k = N := by omega
            have hlr : l.map sl2 = r.map sl2 := by
              have := HE.out
              rw [List.take_of_length_le (by omega), List.take_of_length_le (by omega)] at this
              exact this
            subst hkN
            go_wp2
            go_ret
            rw [decide_eq_true hlr]
            exact ⟨rfl, _, rfl⟩
  · have hne : ¬ l.map sl2 = r.map sl2 := fun e => hl (by have := congrArg List.length e; simpa using this)
    obtain ⟨a, c, rfl⟩ := (slots_form hu)
    obtain ⟨a', c', rfl⟩ := (slots_form hv)
    have hl' : ¬ (l.length : Int) = r.length := by omega
    simp only [hne, decide_false]
    clear hu hv
    generalize l.length = N at *
    generalize r.length = M at *
    go_enter Try.func19, Try.ntmps19
    go_wp2
    go_ret
    exact ⟨rfl, 0, rfl⟩
theorem grown_cell (w : World) (g i : Nat) (u : Value) : w.grownBy (w.setCell ⟨g, i, none⟩ u) (some g) :=
  ⟨rfl, rfl, rfl, by simp, fun k _ hk => Go.heap_setCell_other _ _ _ _ (fun e => hk (by rw [e]))⟩
theorem grown_trans {a b c : World} {r : Option Nat} (h : a.grownBy b r) (k : b.grownBy c r) : a.grownBy c r :=
  ⟨k.os.trans h.os, k.tape.trans h.tape, k.output.trans h.output, Nat.le_trans h.size k.size, fun j h1 h2 => (k.block j (Nat.lt_of_lt_of_le h1 h.size) h2).trans (h.block j h1 h2)⟩
set_option maxRecDepth 100000 in
theorem over_slots (w : World) (v : Value) (l : List Nod) (xs : List Value) (h : w.ownsRow 0 31 2 v l.length xs) (hl : l.length ≤ 1000) :
    Calls Try.prog 22 #[v] w fun e w' => (∃ u, e = .returned u) ∧ w.grownBy w' v.ownBlock := by
  obtain ⟨i0, hi0, hz0, hz1, hz2⟩ := info_parts infoSl
  have HI0 := Lib.hid hi0
  clear hi0
  rcases h.2 with ⟨rfl, h0⟩ | ⟨g, cap, cur, rfl, hg, hb, hn, hcap, hs, _⟩
  · rw [h0] at *
    go_enter Try.func22, Try.ntmps22
    go_wp2
    refine wp_loop_rounds 1 ?_
    rw [rounds_succ]
    go_wp2_with (at_builtin; refine wpList_append_own _ rfl _ _ 37 rfl 0 31 i0 (.agg #[.int .i64 0, .int .i64 0]) 2 16 Try.underlying37 HI0.out hz0 hz1 hz2 rfl (by decide) _ _ _ rfl ((World.ownsRow_nil w 0 31 2).alloc _) ⟨w.heap.size, 0, none⟩ 1 1 [.int .i64 (-9), .int .i64 0] rfl rfl (news_at w _ _ _ rfl) (by simp [Value.oneCell']) (by unfold maxLen; omega) (by omega) (by omega) ?_; intro v' w1 hown' hgrow _)
    go_end0
    exact ⟨⟨_, rfl⟩, grown_trans (World.grownBy_alloc w _ _) hgrow⟩
  · generalize l.length = n at *
    go_enter Try.func22, Try.ntmps22
    go_wp2
    go_loopw [2] (fun i wr => ∃ (k : Nat) (cs : Array Value), k ≤ n ∧ i = .int .i64 k ∧ wr.heap[g]? = some (.cells cs 31 (0, 0)) ∧ cs.size = cap * 2 ∧ w.grownBy wr (some g)) (fun i _ => n - (intOf i).toNat)
    case atStart => exact ⟨0, cur, by omega, rfl, hb, by omega, ⟨rfl, rfl, rfl, Nat.le_refl _, fun _ _ _ => rfl⟩⟩
    case round =>
      obtain ⟨k, cs, hk, rfl, hB, hcs, hgr⟩ := hrel
      clear hb
      by_cases hlt : k < n
      · have ck : wr.cell? ⟨g, k * 2, none⟩ = some (cs[k * 2]'(by omega)) := by
          unfold World.cell?; simp only [hB]; exact Array.getElem?_eq_getElem (by omega)
        have ck1 : wr.cell? ⟨g, k * 2 + 1, none⟩ = some (cs[k * 2 + 1]'(by omega)) := by
          unfold World.cell?; simp only [hB]; exact Array.getElem?_eq_getElem (by omega)
        have fk : ∀ j, wr.frozen? ⟨g, j, none⟩ = false := fun j => Go.frozen_of_row _ _ _ _ _ hB
        have HB := Lib.hid hB; clear hB
        generalize cs[k * 2]'(by omega) = x at ck
        generalize cs[k * 2 + 1]'(by omega) = y at ck1
        go_wp2
        go_roundw
        case rel => exact ⟨k + 1, _, by omega, by go_num, Go.heap_setCell_same _ _ _ _ _ _ (Go.heap_setCell_same _ _ _ _ _ _ HB.out), by simp [hcs], grown_trans hgr (grown_trans (grown_cell wr g _ _) (grown_cell _ g _ _))⟩
        case measure => first | (simp [intOf]; done) | (simp [intOf]; omega)
      · obtain rfl : k = n := by omega
        have hown : wr.ownsRow 0 31 2 (.slice (some ⟨g, 0, none⟩) k cap) k (cs.toList.take (k * 2)) := ⟨by simp; omega, .inr ⟨g, cap, cs, rfl, Nat.zero_le _, hB, hn, hcap, by omega, rfl⟩⟩
        go_wp2_with (at_builtin; refine wpList_append_own _ rfl _ _ 37 rfl 0 31 i0 (.agg #[.int .i64 0, .int .i64 0]) 2 16 Try.underlying37 HI0.out hz0 hz1 hz2 rfl (by decide) _ _ _ rfl (hown.alloc _) ⟨wr.heap.size, 0, none⟩ 1 1 [.int .i64 (-9), .int .i64 0] rfl rfl (news_at wr _ _ _ rfl) (by simp [Value.oneCell']) (by unfold maxLen; omega) (by omega) (by omega) ?_; intro v' w1 hown' hgrow _)
        go_end0
        exact ⟨⟨_, rfl⟩, grown_trans (grown_trans hgr (World.grownBy_alloc wr _ _)) hgrow⟩
set_option maxRecDepth 100000 in
theorem over_nodes (w : World) (v : Value) (l : List Nod) (xs : List Value) (h : w.ownsRow 0 49 3 v l.length xs) (hl : l.length ≤ 1000) :
    Calls Try.prog 23 #[v] w fun e w' => (∃ u, e = .returned u) ∧ w.grownBy w' v.ownBlock := by
  obtain ⟨i0, hi0, hz0, hz1, hz2⟩ := info_parts infoNd
  have HI0 := Lib.hid hi0
  clear hi0
  rcases h.2 with ⟨rfl, h0⟩ | ⟨g, cap, cur, rfl, hg, hb, hn, hcap, hs, _⟩
  · rw [h0] at *
    go_enter Try.func23, Try.ntmps23
    go_wp2
    refine wp_loop_rounds 1 ?_
    rw [rounds_succ]
    go_wp2_with (at_builtin; refine wpList_append_own _ rfl _ _ 27 rfl 0 49 i0 (.agg #[.int .i64 0, .int .i64 0, .int .i64 0]) 3 24 Try.underlying27 HI0.out hz0 hz1 hz2 rfl (by decide) _ _ _ rfl ((World.ownsRow_nil w 0 49 3).alloc _) ⟨w.heap.size, 0, none⟩ 1 1 [.int .i64 0, .int .i64 0, .int .i64 (-9)] rfl rfl (news_at w _ _ _ rfl) (by simp [Value.oneCell']) (by unfold maxLen; omega) (by omega) (by omega) ?_; intro v' w1 hown' hgrow _)
    go_end0
    exact ⟨⟨_, rfl⟩, grown_trans (World.grownBy_alloc w _ _) hgrow⟩
  · generalize l.length = n at *
    go_enter Try.func23, Try.ntmps23
    go_wp2
    go_loopw [2] (fun i wr => ∃ (k : Nat) (cs : Array Value), k ≤ n ∧ i = .int .i64 k ∧ wr.heap[g]? = some (.cells cs 49 (0, 0)) ∧ cs.size = cap * 3 ∧ w.grownBy wr (some g)) (fun i _ => n - (intOf i).toNat)
    case atStart => exact ⟨0, cur, by omega, rfl, hb, by omega, ⟨rfl, rfl, rfl, Nat.le_refl _, fun _ _ _ => rfl⟩⟩
    case round =>
      obtain ⟨k, cs, hk, rfl, hB, hcs, hgr⟩ := hrel
      clear hb
      by_cases hlt : k < n
      · have ck : wr.cell? ⟨g, k * 3, none⟩ = some (cs[k * 3]'(by omega)) := by
          unfold World.cell?; simp only [hB]; exact Array.getElem?_eq_getElem (by omega)
        have ck1 : wr.cell? ⟨g, k * 3 + 1, none⟩ = some (cs[k * 3 + 1]'(by omega)) := by
          unfold World.cell?; simp only [hB]; exact Array.getElem?_eq_getElem (by omega)
        have ck2 : wr.cell? ⟨g, k * 3 + 2, none⟩ = some (cs[k * 3 + 2]'(by omega)) := by
          unfold World.cell?; simp only [hB]; exact Array.getElem?_eq_getElem (by omega)
        have fk : ∀ j, wr.frozen? ⟨g, j, none⟩ = false := fun j => Go.frozen_of_row _ _ _ _ _ hB
        have HB := Lib.hid hB; clear hB
        generalize cs[k * 3]'(by omega) = x at ck
        generalize cs[k * 3 + 1]'(by omega) = y at ck1
        generalize cs[k * 3 + 2]'(by omega) = z at ck2
        go_wp2
        go_roundw
        case rel => exact ⟨k + 1, _, by omega, by go_num, Go.heap_setCell_same _ _ _ _ _ _ (Go.heap_setCell_same _ _ _ _ _ _ (Go.heap_setCell_same _ _ _ _ _ _ HB.out)), by simp [hcs], grown_trans hgr (grown_trans (grown_trans (grown_cell wr g _ _) (grown_cell _ g _ _)) (grown_cell _ g _ _))⟩
        case measure => first | (simp [intOf]; done) | (simp [intOf]; omega)
      · obtain rfl : k = n := by omega
        have hown : wr.ownsRow 0 49 3 (.slice (some ⟨g, 0, none⟩) k cap) k (cs.toList.take (k * 3)) := ⟨by simp; omega, .inr ⟨g, cap, cs, rfl, Nat.zero_le _, hB, hn, hcap, by omega, rfl⟩⟩
        go_wp2_with (at_builtin; refine wpList_append_own _ rfl _ _ 27 rfl 0 49 i0 (.agg #[.int .i64 0, .int .i64 0, .int .i64 0]) 3 24 Try.underlying27 HI0.out hz0 hz1 hz2 rfl (by decide) _ _ _ rfl (hown.alloc _) ⟨wr.heap.size, 0, none⟩ 1 1 [.int .i64 0, .int .i64 0, .int .i64 (-9)] rfl rfl (news_at wr _ _ _ rfl) (by simp [Value.oneCell']) (by unfold maxLen; omega) (by omega) (by omega) ?_; intro v' w1 hown' hgrow _)
        go_end0
        exact ⟨⟨_, rfl⟩, grown_trans (grown_trans hgr (World.grownBy_alloc wr _ _)) hgrow⟩
end Go.Proofs.Ytebgmphbkjpfcaa
