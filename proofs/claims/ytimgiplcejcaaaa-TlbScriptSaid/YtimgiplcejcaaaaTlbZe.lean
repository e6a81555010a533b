/- A list of translations that is written over; a list told, whose array is the call's own. -/
import Derived.Test.YtimgiplcejcaaaaTlbZb
import Derived.Test.YtimgiplcejcaaaaTlbZc
import Derived.Test.YtimgiplcejcaaaaTlbZd
namespace Go.Proofs.Ytimgiplcejcaaaa
set_option linter.unusedVariables false
set_option linter.unusedSimpArgs false
open Go.ChangeShapes Go.WideShapes Go.ChangeAt Go.RowKit

theorem grown_cell (w : World) (g i : Nat) (u : Value) : w.grownBy (w.setCell ⟨g, i, none⟩ u) (some g) :=
  ⟨rfl, rfl, rfl, by simp, fun k _ hk => Go.heap_setCell_other _ _ _ _ (fun e => hk (by rw [e]))⟩
theorem grown_trans {a b c : World} {r : Option Nat} (h : a.grownBy b r) (k : b.grownBy c r) : a.grownBy c r :=
  ⟨k.os.trans h.os, k.tape.trans h.tape, k.output.trans h.output, Nat.le_trans h.size k.size, fun j h1 h2 => (k.block j (Nat.lt_of_lt_of_le h1 h.size) h2).trans (h.block j h1 h2)⟩
theorem cellQ {W : World} {b : Nat} {cs : Array Value} {t : TypeId} (h : W.heap[b]? = some (.cells cs t (0, 0))) (j : Nat) : W.cell? ⟨b, j, none⟩ = cs[j]? := by
  simp [World.cell?, h]
theorem five_same (w : World) (g o : Nat) (cs : Array Value) (t : TypeId) (v0 v1 v2 v3 v4 : Value) (h : w.heap[g]? = some (.cells cs t (0, 0))) :
    ∃ cs', (((((w.setCell ⟨g, o, none⟩ v0).setCell ⟨g, o + 1, none⟩ v1).setCell ⟨g, o + 2, none⟩ v2).setCell ⟨g, o + 3, none⟩ v3).setCell ⟨g, o + 4, none⟩ v4).heap[g]? = some (.cells cs' t (0, 0)) ∧ cs'.size = cs.size :=
  ⟨_, Go.heap_setCell_same _ _ _ _ _ _ (Go.heap_setCell_same _ _ _ _ _ _ (Go.heap_setCell_same _ _ _ _ _ _ (Go.heap_setCell_same _ _ _ _ _ _ (Go.heap_setCell_same _ _ _ _ _ _ h)))), by simp⟩
theorem five_grown (w : World) (g o : Nat) (v0 v1 v2 v3 v4 : Value) : w.grownBy (((((w.setCell ⟨g, o, none⟩ v0).setCell ⟨g, o + 1, none⟩ v1).setCell ⟨g, o + 2, none⟩ v2).setCell ⟨g, o + 3, none⟩ v3).setCell ⟨g, o + 4, none⟩ v4) (some g) :=
  grown_trans (grown_trans (grown_trans (grown_trans (grown_cell _ _ _ _) (grown_cell _ _ _ _)) (grown_cell _ _ _ _)) (grown_cell _ _ _ _)) (grown_cell _ _ _ _)
abbrev overX : TransX := ⟨-9, 0, 0, false, false⟩
set_option maxRecDepth 100000 in
set_option maxHeartbeats 1000000 in
theorem overT_nil (w : World) : Calls Try.prog 25 #[.slice none 0 0] w fun e w' => (∃ v, e = .returned v) ∧ w.grownBy w' none := by
  obtain ⟨i0, hi, hz0, hz1, hz2⟩ := info_parts infoT
  have hn5 := Lib.hid (cells_new5' w overX 28)
  go_enter Try.func25, Try.ntmps25
  go_wp2
  refine wp_loop_rounds 1 ?_
  rw [rounds_succ]
  go_wp2_with (at_builtin; refine wpList_append_own _ rfl _ _ 47 rfl w.heap.size 28 i0 _ 5 32 Try.underlying47 hi hz0 hz1 hz2 rfl (by decide) _ _ _ rfl ((World.ownsRow_nil w w.heap.size 28 5).alloc _) ⟨w.heap.size, 0, none⟩ 1 1 (cellsT overX) rfl rfl hn5.out (by simp [cellsT, Value.oneCell']) (by unfold maxLen; omega) (by omega) (by simp) ?_; intro v' w1 hown' hgrow _)
  go_end0
  exact ⟨⟨_, rfl⟩, grown_trans (World.grownBy_alloc w _ _) hgrow⟩
set_option maxRecDepth 100000 in
set_option maxHeartbeats 1000000 in
theorem overT_row (g n cap : Nat) (cur : Array Value) (w : World) (hb : w.heap[g]? = some (.cells cur 28 (0, 0))) (hn : n ≤ cap) (h4 : n ≤ 8) (hm : cap ≤ maxLen) (hcur : cur.size = cap * 5) :
    Calls Try.prog 25 #[.slice (some ⟨g, 0, none⟩) n cap] w fun e w' => (∃ v, e = .returned v) ∧ w.grownBy w' (some g) := by
  obtain ⟨i0, hi, hz0, hz1, hz2⟩ := info_parts infoT
  go_enter Try.func25, Try.ntmps25
  go_wp2
  go_loopw [2] (fun i wr => ∃ (k : Nat) (cs : Array Value), k ≤ n ∧ i = .int .i64 k ∧ wr.heap[g]? = some (.cells cs 28 (0, 0)) ∧ cs.size = cap * 5 ∧ w.grownBy wr (some g)) (fun i _ => n - (intOf i).toNat)
  case atStart => exact ⟨0, cur, by omega, rfl, hb, hcur, ⟨rfl, rfl, rfl, Nat.le_refl _, fun _ _ _ => rfl⟩⟩
  case round =>
    obtain ⟨k, cs, hk, rfl, hB, hcs, hg⟩ := hrel
    clear hb
    by_cases hlt : k < n
    · have ck : ∀ j, j < 5 → ∃ x, wr.cell? ⟨g, k * 5 + j, none⟩ = some x := fun j hj => ⟨cs[k * 5 + j]'(by omega), by rw [cellQ hB]; exact Array.getElem?_eq_getElem (by omega)⟩
      obtain ⟨x0, d0⟩ := ck 0 (by omega)
      obtain ⟨x1, d1⟩ := ck 1 (by omega)
      obtain ⟨x2, d2⟩ := ck 2 (by omega)
      obtain ⟨x3, d3⟩ := ck 3 (by omega)
      obtain ⟨x4, d4⟩ := ck 4 (by omega)
      rw [Nat.add_zero] at d0
      have fk : ∀ j, wr.frozen? ⟨g, j, none⟩ = false := fun j => by simp [World.frozen?, hB]
      have HB := Lib.hid hB
      clear hB ck
      go_wp2
      go_roundw
      case rel =>
        obtain ⟨cs', e1, e2⟩ := five_same wr g (k * 5) cs _ (.int .i64 (-9)) (.int .i64 0) (.int .i64 0) (.bool false) (.bool false) HB.out
        exact ⟨k + 1, cs', by omega, by go_num, e1, by rw [e2, hcs], grown_trans hg (five_grown _ _ _ _ _ _ _ _)⟩
      case measure => simp [intOf]; omega
    · obtain rfl : k = n := by omega
      have hown : wr.ownsRow 0 28 5 (.slice (some ⟨g, 0, none⟩) k cap) k (cs.toList.take (k * 5)) := ⟨by simp; omega, .inr ⟨g, cap, cs, rfl, Nat.zero_le _, hB, hn, hm, by omega, by simp⟩⟩
      have HO := Lib.hid hown
      have hn5 := Lib.hid (cells_new5' wr overX 28)
      clear hB hown
      go_wp2_with (at_builtin; refine wpList_append_own _ rfl _ _ 47 rfl 0 28 i0 _ 5 32 Try.underlying47 hi hz0 hz1 hz2 rfl (by decide) _ _ _ rfl (HO.out.alloc _) ⟨wr.heap.size, 0, none⟩ 1 1 (cellsT overX) rfl rfl hn5.out (by simp [cellsT, Value.oneCell']) (by unfold maxLen; omega) (by omega) (by omega) ?_; intro v' w1 hown' hgrow _)
      go_end0
      exact ⟨⟨_, rfl⟩, grown_trans (grown_trans hg (World.grownBy_alloc wr _ _)) hgrow⟩
theorem overT_any (w : World) (base : Nat) (p : Option Addr) (n c : Nat) (xs : List Value) (h : w.ownsRow base 28 5 (.slice p n c) n xs) (h4 : n ≤ 8) :
    Calls Try.prog 25 #[.slice p n c] w fun e w' => (∃ v, e = .returned v) ∧ w.grownBy w' (Value.slice p n c).ownBlock := by
  obtain ⟨hl, ⟨he, h0⟩ | ⟨g, cap, cur, he, hb, hg, hn, hm, hs, ht⟩⟩ := h
  · cases he
    exact overT_nil w
  · cases he
    exact overT_row g n c cur w hg hn h4 hm hs
/-- A list told whose array is the call's own. -/
structure OwnT (w : World) (base g : Nat) (p : Option Addr) (n c : Nat) (T : Nat → TransX) : Prop where
  own : ∃ xs, w.ownsRow base 28 5 (.slice p n c) n xs
  at_ : 0 < n → p = some ⟨g, 0, none⟩ ∧ g < w.heap.size
  rows : TRows w g n T
theorem own_of_row {w : World} {base : Nat} {v : Value} {S : Nat → TransX × TransX × Int} (h : w.ownsRow base 28 5 v (fullP S 8).length ((fullP S 8).flatMap fun p => cellsT (wayP S p))) :
    ∃ p c g, v = .slice p (allN S) c ∧ OwnT w base g p (allN S) c (allT S) := by
  have h' := h
  obtain ⟨hl, ⟨rfl, h0⟩ | ⟨g, cap, cur, rfl, hg, hc, h1, h2, h3, h4⟩⟩ := h
  · have e0 : allN S = 0 := h0
    refine ⟨none, 0, 0, by rw [e0], ⟨⟨_, by rw [e0]; exact h0 ▸ h'⟩, fun h => by omega, fun i hi => by omega⟩⟩
  · refine ⟨some ⟨g, 0, none⟩, cap, g, rfl, ⟨⟨_, h'⟩, fun _ => ⟨rfl, (Array.getElem?_eq_some_iff.1 hc).1⟩, fun i hi => ?_⟩⟩
    have key : ∀ j u, (cellsT (allT S i))[j]? = some u → w.cell? ⟨g, i * 5 + j, none⟩ = some u := by
      intro j u hu
      have hj : j < 5 := by
        have := (List.getElem?_eq_some_iff.1 hu).1
        simpa [cellsT] using this
      have hx := flat_get (wayP S) (fullP S 8) i j u hi hu
      rw [← h4] at hx
      have hlt : i * 5 + j < (fullP S 8).length * 5 := by unfold allN at hi; omega
      rw [List.getElem?_take_of_lt hlt, Array.getElem?_toList] at hx
      have := (Array.getElem?_eq_some_iff.1 hx).1
      unfold World.cell?
      simp [hc, hx]
    exact ⟨key 0 _ rfl, key 1 _ rfl, key 2 _ rfl, key 3 _ rfl, key 4 _ rfl⟩
theorem OwnT.below {w w' : World} {base g n c : Nat} {p : Option Addr} {T : Nat → TransX} (h : OwnT w base g p n c T) (hb : Below w.heap.size w w') : OwnT w' base g p n c T := by
  obtain ⟨⟨xs, ho⟩, ha, hr⟩ := h
  refine ⟨⟨xs, ho.1, ?_⟩, fun hn => ⟨(ha hn).1, Nat.lt_of_lt_of_le (ha hn).2 hb.size⟩, fun i hi => (hr i hi).below hb (ha (by omega)).2⟩
  rcases ho.2 with h | ⟨g', cap, cur, e1, e2, e3, e4⟩
  · exact .inl h
  · exact .inr ⟨g', cap, cur, e1, e2, (hb.block g' (Array.getElem?_eq_some_iff.1 e3).1).trans e3, e4⟩
theorem tall_own (w : World) (b : Nat) (S : Nat → TransX × TransX × Int) (hT : TlbAt w b S) (hok : Oks S) :
    Calls Try.prog 22 #[.pointer (some ⟨b, 0, none⟩)] w fun e W' => ∃ p c g, e = .returned (.slice p (allN S) c) ∧ OwnT W' w.heap.size g p (allN S) c (allT S) ∧ Below w.heap.size w W' := by
  refine (callsIn_wide.1 (all_in w b S hT hok.way)).mono ?_
  rintro e W' ⟨v, rfl, hr, hn, hb⟩
  obtain ⟨p, c, g, rfl, ho⟩ := own_of_row hr
  exact ⟨p, c, g, rfl, ho, hb⟩
theorem rall_own (w : World) (b : Nat) (S : Nat → TransX × TransX × Int) (hT : RefAt w b S) (hok : Oks S) :
    Calls Try.prog 24 #[.pointer (some ⟨b, 0, none⟩)] w fun e W' => ∃ p c g, e = .returned (.slice p (allN S) c) ∧ OwnT W' w.heap.size g p (allN S) c (allT S) ∧ Below w.heap.size w W' := by
  refine (refAll_any w b S hT hok).mono ?_
  rintro e W' ⟨v, rfl, hr, hb⟩
  obtain ⟨p, c, g, rfl, ho⟩ := own_of_row hr
  exact ⟨p, c, g, rfl, ho, hb⟩
end Go.Proofs.Ytimgiplcejcaaaa
