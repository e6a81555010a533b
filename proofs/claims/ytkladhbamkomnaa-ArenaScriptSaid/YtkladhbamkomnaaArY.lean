/- chapter 12's own answer: New; SetMark, SetPlace; a list written over. -/
import Derived.Test.YtkladhbamkomnaaArX
namespace Go.Proofs.Ytkladhbamkomnaa
set_option linter.unusedVariables false
set_option linter.unusedSimpArgs false
open Go.ChangeShapes Go.WideShapes Go.ChangeAt Go.RowKit Go.Shelf
open TabA

theorem news_at (wr W : World) (cs : List Value) (t : TypeId) (h : W.heap = (wr.alloc (.cells cs.toArray t)).heap) : ∀ j u, cs[j]? = some u → W.cell? ((⟨wr.heap.size, 0, none⟩ : Addr).add j) = some u := by
  intro j u hj
  have e : ((⟨wr.heap.size, 0, none⟩ : Addr).add j) = ⟨wr.heap.size, j, none⟩ := by unfold Addr.add; split <;> simp_all
  have hb : W.heap[wr.heap.size]? = some (.cells cs.toArray t (0, 0)) := by rw [h]; exact World.alloc_heap_new _ _
  rw [e]
  simp [World.cell?, hb, hj]
def zA : Array Value := (Value.int .i64 0 :: Value.slice none 0 0 :: List.replicate 64 (Value.int .i64 0)).toArray
theorem zero_ref : ∀ w, (zeroValue 45).run Try.prog w = .ok (.agg zA) w := fun _ => by kernel_rfl
theorem zA_ne : ¬ zA = #[] := by simp [zA]
def zF (F : Int) : Array Value := zA.setIfInBounds 0 (.int .i64 F)
def zeroG : List Int := List.replicate 64 0
set_option maxRecDepth 100000 in
set_option maxHeartbeats 1000000 in
theorem rnew_no (w : World) (F : Int) (hF : F < 1 ∨ 64 < F) :
    Calls Try.prog 10 #[.int .i64 F] w fun e w' => e = .returned (.tuple #[.pointer none, .int .i64 3]) ∧ w = w' := by
  have h2 : F < 1 ∨ (¬ F < 1 ∧ 64 < F) := by omega
  clear hF
  rcases h2 with h | ⟨h, h'⟩
  all_goals
    go_enter Try.func10, Try.ntmps10
    go_wp2
    go_ret2
    exact ⟨rfl, rfl⟩
theorem ref_new (w w' : World) (F : Int) (hB : w'.heap[w.heap.size]? = some (.cells (Value.int .i64 F :: Value.slice none 0 0 :: zeroG.map (Value.int .i64)).toArray 45 (0, 0))) (hs : w'.heap.size = w.heap.size + 1) : RefA w' w.heap.size (w.heap.size + 1) F (.slice none 0 0) [] zeroG :=
  ⟨hB, by decide, World.ownsRow_nil _ _ _ _, by omega, by omega, by intro g hg; simp [zeroG] at hg; omega⟩
set_option maxRecDepth 100000 in
set_option maxHeartbeats 1000000 in
theorem rnew_yes (w : World) (F : Int) (h0 : ¬ F < 1) (h1 : ¬ 64 < F) :
    Calls Try.prog 10 #[.int .i64 F] w fun e w' => ∃ rb, e = .returned (.tuple #[.pointer (some ⟨rb, 0, none⟩), .int .i64 0]) ∧ RefA w' rb (rb + 1) F (.slice none 0 0) [] zeroG ∧ Below w.heap.size w w' ∧ rb = w.heap.size := by
  have hz := zero_ref
  have hne := zA_ne
  have hzf : zA.setIfInBounds 0 (.int .i64 F) = zF F := rfl
  have hsz : (zF F).size = 66 := by simp [zF, zA]
  go_enter Try.func10, Try.ntmps10
  go_wp2
  go_ret2
  exact ⟨w.heap.size, rfl, ref_new w _ F (heap_alloc_new w _) (by simp), bal (Below.refl _ _) _, rfl⟩
set_option maxRecDepth 100000 in
set_option maxHeartbeats 2000000 in
theorem over_objs (w : World) (v : Value) (n : Nat) (xs : List Value) (base : Nat) (h : w.ownsRow base 37 9 v n xs) (hl : n ≤ 1000) :
    Calls Try.prog 19 #[v] w fun e w' => (∃ u, e = .returned u) ∧ w.grownBy w' v.ownBlock := by
  obtain ⟨i0, hi0, hz0, hz1, hz2⟩ := info_parts infoOb
  have HI0 := Lib.hid hi0
  clear hi0
  have hbs := h.1
  rcases h.2 with ⟨rfl, h0⟩ | ⟨g, cap, cur, rfl, hg, hb, hn, hcap, hs, _⟩
  · rw [h0] at *
    go_enter Try.func19, Try.ntmps19
    go_wp2
    refine wp_loop_rounds 1 ?_
    rw [rounds_succ]
    go_wp2_with (at_builtin; refine wpList_append_own _ rfl _ _ 40 rfl 0 37 i0 (.agg #[.int .i64 0, .int .i64 0, .int .i64 0, .int .i64 0, .int .i64 0, .int .i64 0, .int .i64 0, .int .i64 0, .int .i64 0]) 9 72 Try.underlying40 HI0.out hz0 hz1 hz2 rfl (by decide) _ _ _ rfl ((World.ownsRow_nil w 0 37 9).alloc _) ⟨w.heap.size, 0, none⟩ 1 1 [.int .i64 (-9), .int .i64 0, .int .i64 0, .int .i64 0, .int .i64 0, .int .i64 0, .int .i64 0, .int .i64 0, .int .i64 0] rfl rfl (news_at w _ _ _ rfl) (by simp [Value.oneCell']) (by unfold maxLen; omega) (by omega) (by omega) ?_; intro v' w1 hown' hgrow _)
    go_end0
    exact ⟨⟨_, rfl⟩, grown_trans (World.grownBy_alloc w _ _) hgrow⟩
  · go_enter Try.func19, Try.ntmps19
    go_wp2
    go_loopw [2] (fun i wr => ∃ (k : Nat) (cs : Array Value), k ≤ n ∧ i = .int .i64 k ∧ wr.heap[g]? = some (.cells cs 37 (0, 0)) ∧ cs.size = cap * 9 ∧ w.grownBy wr (some g)) (fun i _ => n - (intOf i).toNat)
    case atStart => exact ⟨0, cur, by omega, rfl, hb, by omega, ⟨rfl, rfl, rfl, Nat.le_refl _, fun _ _ _ => rfl⟩⟩
    case round =>
      obtain ⟨k, cs, hk, rfl, hB, hcs, hgr⟩ := hrel
      clear hb
      by_cases hlt : k < n
      · have ck : ∀ j (hj : k * 9 + j < cs.size), wr.cell? ⟨g, k * 9 + j, none⟩ = some (cs[k * 9 + j]'hj) := fun j hj => by
          unfold World.cell?; simp only [hB]; exact Array.getElem?_eq_getElem hj
        have e0 := ck 0 (by omega)
        have e1 := ck 1 (by omega)
        have e2 := ck 2 (by omega)
        have e3 := ck 3 (by omega)
        have e4 := ck 4 (by omega)
        have e5 := ck 5 (by omega)
        have e6 := ck 6 (by omega)
        have e7 := ck 7 (by omega)
        have e8 := ck 8 (by omega)
        clear ck
        generalize cs[k * 9 + 0]'(by omega) = x0 at e0
        generalize cs[k * 9 + 1]'(by omega) = x1 at e1
        generalize cs[k * 9 + 2]'(by omega) = x2 at e2
        generalize cs[k * 9 + 3]'(by omega) = x3 at e3
        generalize cs[k * 9 + 4]'(by omega) = x4 at e4
        generalize cs[k * 9 + 5]'(by omega) = x5 at e5
        generalize cs[k * 9 + 6]'(by omega) = x6 at e6
        generalize cs[k * 9 + 7]'(by omega) = x7 at e7
        generalize cs[k * 9 + 8]'(by omega) = x8 at e8
        simp only [Nat.add_zero] at e0
        have fk : ∀ j, wr.frozen? ⟨g, j, none⟩ = false := fun j => Go.frozen_of_row _ _ _ _ _ hB
        have HB := Lib.hid hB; clear hB
        have hltI : (k : Int) < n := by omega
        go_wp2
        go_roundw
        case rel => exact ⟨k + 1, _, by omega, by go_num, Go.heap_setCell_same _ _ _ _ _ _ (Go.heap_setCell_same _ _ _ _ _ _ (Go.heap_setCell_same _ _ _ _ _ _ (Go.heap_setCell_same _ _ _ _ _ _ (Go.heap_setCell_same _ _ _ _ _ _ (Go.heap_setCell_same _ _ _ _ _ _ (Go.heap_setCell_same _ _ _ _ _ _ (Go.heap_setCell_same _ _ _ _ _ _ (Go.heap_setCell_same _ _ _ _ _ _ HB.out)))))))), by simp [hcs],
          grown_trans hgr (grown_trans (grown_trans (grown_trans (grown_trans (grown_trans (grown_trans (grown_trans (grown_trans (grown_cellX wr g _ _) (grown_cellX _ g _ _)) (grown_cellX _ g _ _)) (grown_cellX _ g _ _)) (grown_cellX _ g _ _)) (grown_cellX _ g _ _)) (grown_cellX _ g _ _)) (grown_cellX _ g _ _)) (grown_cellX _ g _ _))⟩
        case measure => first | (simp [intOf]; done) | (simp [intOf]; omega)
      · obtain rfl : k = n := by omega
        have hown : wr.ownsRow 0 37 9 (.slice (some ⟨g, 0, none⟩) k cap) k (cs.toList.take (k * 9)) := ⟨by simp; omega, .inr ⟨g, cap, cs, rfl, Nat.zero_le _, hB, hn, hcap, by omega, rfl⟩⟩
        go_wp2_with (at_builtin; refine wpList_append_own _ rfl _ _ 40 rfl 0 37 i0 (.agg #[.int .i64 0, .int .i64 0, .int .i64 0, .int .i64 0, .int .i64 0, .int .i64 0, .int .i64 0, .int .i64 0, .int .i64 0]) 9 72 Try.underlying40 HI0.out hz0 hz1 hz2 rfl (by decide) _ _ _ rfl (hown.alloc _) ⟨wr.heap.size, 0, none⟩ 1 1 [.int .i64 (-9), .int .i64 0, .int .i64 0, .int .i64 0, .int .i64 0, .int .i64 0, .int .i64 0, .int .i64 0, .int .i64 0] rfl rfl (news_at wr _ _ _ rfl) (by simp [Value.oneCell']) (by unfold maxLen; omega) (by omega) (by omega) ?_; intro v' w1 hown' hgrow _)
        go_end0
        exact ⟨⟨_, rfl⟩, grown_trans (grown_trans hgr (World.grownBy_alloc wr _ _)) hgrow⟩
end Go.Proofs.Ytkladhbamkomnaa
