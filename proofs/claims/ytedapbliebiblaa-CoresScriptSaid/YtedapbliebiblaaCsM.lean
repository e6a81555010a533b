import Derived.Test.YtedapbliebiblaaCkM
import Derived.Test.YtedapbliebiblaaCoD
import Derived.Deep.RegionHeld3
import Derived.LoopTactic
import Derived.OwnWalk
import Derived.Test.YtedapbliebiblaaCoM
import Derived.Test.YtedapbliebiblaaKq
import Derived.Maps.AppendAt
import Derived.Test.YtedapbliebiblaaCo8
import Derived.Deep.Cut
import Derived.Deep.CutRange
import Derived.Deep.CutBlock
import Derived.Test.YtedapbliebiblaaCo7
import Derived.Test.YtedapbliebiblaaCoA
namespace Go.Proofs.Ytedapbliebiblaa
/- Lists of translations, written over. -/
section
set_option linter.unusedVariables false
set_option linter.unusedSimpArgs false
open Go.ChangeShapes Go.WideShapes Go.ChangeAt Go.RowKit Go.Shelf

theorem cellQ {W : World} {b : Nat} {cs : Array Value} {t : TypeId} (h : W.heap[b]? = some (.cells cs t (0, 0))) (j : Nat) : W.cell? ⟨b, j, none⟩ = cs[j]? := by
  simp [World.cell?, h]
theorem five_same (w : World) (g o : Nat) (cs : Array Value) (t : TypeId) (v0 v1 v2 v3 v4 : Value) (h : w.heap[g]? = some (.cells cs t (0, 0))) :
    ∃ cs', (((((w.setCell ⟨g, o, none⟩ v0).setCell ⟨g, o + 1, none⟩ v1).setCell ⟨g, o + 2, none⟩ v2).setCell ⟨g, o + 3, none⟩ v3).setCell ⟨g, o + 4, none⟩ v4).heap[g]? = some (.cells cs' t (0, 0)) ∧ cs'.size = cs.size :=
  ⟨_, Go.heap_setCell_same _ _ _ _ _ _ (Go.heap_setCell_same _ _ _ _ _ _ (Go.heap_setCell_same _ _ _ _ _ _ (Go.heap_setCell_same _ _ _ _ _ _ (Go.heap_setCell_same _ _ _ _ _ _ h)))), by simp⟩
theorem five_grown (w : World) (g o : Nat) (v0 v1 v2 v3 v4 : Value) : w.grownBy (((((w.setCell ⟨g, o, none⟩ v0).setCell ⟨g, o + 1, none⟩ v1).setCell ⟨g, o + 2, none⟩ v2).setCell ⟨g, o + 3, none⟩ v3).setCell ⟨g, o + 4, none⟩ v4) (some g) :=
  grown_trans (grown_trans (grown_trans (grown_trans (grown_cell _ _ _ _) (grown_cell _ _ _ _)) (grown_cell _ _ _ _)) (grown_cell _ _ _ _)) (grown_cell _ _ _ _)
abbrev overX : TransX := ⟨-9, 0, 0, false, false⟩
set_option maxRecDepth 100000 in
set_option maxHeartbeats 1000000 in
theorem overT_nil (w : World) : Calls Try.prog 41 #[.slice none 0 0] w fun e w' => (∃ v, e = .returned v) ∧ w.grownBy w' none := by
  obtain ⟨i0, hi, hz0, hz1, hz2⟩ := info_parts infoT
  have hn5 := Lib.hid (cells_new5' w overX 52)
  go_enter Try.func41, Try.ntmps41
  go_wp2
  refine wp_loop_rounds 1 ?_
  rw [rounds_succ]
  go_wp2_with (at_builtin; refine wpList_append_own _ rfl _ _ 61 rfl w.heap.size 52 i0 _ 5 32 Try.underlying61 hi hz0 hz1 hz2 rfl (by decide) _ _ _ rfl ((World.ownsRow_nil w w.heap.size 52 5).alloc _) ⟨w.heap.size, 0, none⟩ 1 1 (cellsT overX) rfl rfl hn5.out (by simp [cellsT, Value.oneCell']) (by unfold maxLen; omega) (by omega) (by simp) ?_; intro v' w1 hown' hgrow _)
  go_end0
  exact ⟨⟨_, rfl⟩, grown_trans (World.grownBy_alloc w _ _) hgrow⟩
set_option maxRecDepth 100000 in
set_option maxHeartbeats 1000000 in
theorem overT_row (g n cap : Nat) (cur : Array Value) (w : World) (hb : w.heap[g]? = some (.cells cur 52 (0, 0))) (hn : n ≤ cap) (h4 : n ≤ 8) (hm : cap ≤ maxLen) (hcur : cur.size = cap * 5) :
    Calls Try.prog 41 #[.slice (some ⟨g, 0, none⟩) n cap] w fun e w' => (∃ v, e = .returned v) ∧ w.grownBy w' (some g) := by
  obtain ⟨i0, hi, hz0, hz1, hz2⟩ := info_parts infoT
  go_enter Try.func41, Try.ntmps41
  go_wp2
  go_loopw [2] (fun i wr => ∃ (k : Nat) (cs : Array Value), k ≤ n ∧ i = .int .i64 k ∧ wr.heap[g]? = some (.cells cs 52 (0, 0)) ∧ cs.size = cap * 5 ∧ w.grownBy wr (some g)) (fun i _ => n - (intOf i).toNat)
  case atStart => exact ⟨0, cur, by omega, rfl, hb, hcur, ⟨rfl, rfl, rfl, Nat.le_refl _, fun _ _ _ => rfl⟩⟩
  case round =>
    obtain ⟨k, cs, hk, rfl, hB, hcs, hg⟩ := hrel
    clear hb
    by_cases hlt : k < n
    · have ck : ∀ j, j < 5 → ∃ x, wr.cell? ⟨g, k * 5 + j, none⟩ = some x := fun j hj => ⟨cs[k * 5 + j]'(by omega), by rw [cellQ hB]; exact Array.getElem?_eq_getElem (by omega)⟩
      obtain ⟨x0, d0⟩ := ck 0 (by omega)
      obtain ⟨x1, d1⟩ := ck 1 (by omega)
      obtain ⟨x2, d2⟩ := ck 2 (by omega)
      obtain ⟨x3, d3⟩ := ck 3 (by omega)
      obtain ⟨x4, d4⟩ := ck 4 (by omega)
      rw [Nat.add_zero] at d0
      have fk : ∀ j, wr.frozen? ⟨g, j, none⟩ = false := fun j => by simp [World.frozen?, hB]
      have HB := Lib.hid hB
      clear hB ck
      go_wp2
      go_roundw
      case rel =>
        obtain ⟨cs', e1, e2⟩ := five_same wr g (k * 5) cs _ (.int .i64 (-9)) (.int .i64 0) (.int .i64 0) (.bool false) (.bool false) HB.out
        exact ⟨k + 1, cs', by omega, by go_num, e1, by rw [e2, hcs], grown_trans hg (five_grown _ _ _ _ _ _ _ _)⟩
      case measure => simp [intOf]; omega
    · obtain rfl : k = n := by omega
      have hown : wr.ownsRow 0 52 5 (.slice (some ⟨g, 0, none⟩) k cap) k (cs.toList.take (k * 5)) := ⟨by simp; omega, .inr ⟨g, cap, cs, rfl, Nat.zero_le _, hB, hn, hm, by omega, by simp⟩⟩
      have HO := Lib.hid hown
      have hn5 := Lib.hid (cells_new5' wr overX 52)
      clear hB hown
      go_wp2_with (at_builtin; refine wpList_append_own _ rfl _ _ 61 rfl 0 52 i0 _ 5 32 Try.underlying61 hi hz0 hz1 hz2 rfl (by decide) _ _ _ rfl (HO.out.alloc _) ⟨wr.heap.size, 0, none⟩ 1 1 (cellsT overX) rfl rfl hn5.out (by simp [cellsT, Value.oneCell']) (by unfold maxLen; omega) (by omega) (by omega) ?_; intro v' w1 hown' hgrow _)
      go_end0
      exact ⟨⟨_, rfl⟩, grown_trans (grown_trans hg (World.grownBy_alloc wr _ _)) hgrow⟩
theorem overT_any (w : World) (base : Nat) (p : Option Addr) (n c : Nat) (xs : List Value) (h : w.ownsRow base 52 5 (.slice p n c) n xs) (h4 : n ≤ 8) :
    Calls Try.prog 41 #[.slice p n c] w fun e w' => (∃ v, e = .returned v) ∧ w.grownBy w' (Value.slice p n c).ownBlock := by
  obtain ⟨hl, ⟨he, h0⟩ | ⟨g, cap, cur, he, hb, hg, hn, hm, hs, ht⟩⟩ := h
  · cases he
    exact overT_nil w
  · cases he
    exact overT_row g n c cur w hg hn h4 hm hs
/-- A list told whose array is the call's own. -/
structure OwnT (w : World) (base g : Nat) (p : Option Addr) (n c : Nat) (T : Nat → TransX) : Prop where
  own : ∃ xs, w.ownsRow base 52 5 (.slice p n c) n xs
  at_ : 0 < n → p = some ⟨g, 0, none⟩ ∧ g < w.heap.size
  rows : TRows w g n T
theorem own_of_row {w : World} {base : Nat} {v : Value} {S : Nat → TransX × TransX × Int} (h : w.ownsRow base 52 5 v (fullP S 8).length ((fullP S 8).flatMap fun p => cellsT (wayP S p))) :
    ∃ p c g, v = .slice p (allN S) c ∧ OwnT w base g p (allN S) c (allT S) := by
  have h' := h
  obtain ⟨hl, ⟨rfl, h0⟩ | ⟨g, cap, cur, rfl, hg, hc, h1, h2, h3, h4⟩⟩ := h
  · have e0 : allN S = 0 := h0
    refine ⟨none, 0, 0, by rw [e0], ⟨⟨_, by rw [e0]; exact h0 ▸ h'⟩, fun h => by omega, fun i hi => by omega⟩⟩
  · refine ⟨some ⟨g, 0, none⟩, cap, g, rfl, ⟨⟨_, h'⟩, fun _ => ⟨rfl, (Array.getElem?_eq_some_iff.1 hc).1⟩, fun i hi => ?_⟩⟩
    have key : ∀ j u, (cellsT (allT S i))[j]? = some u → w.cell? ⟨g, i * 5 + j, none⟩ = some u := by
      intro j u hu
      have hj : j < 5 := by
        have := (List.getElem?_eq_some_iff.1 hu).1
        simpa [cellsT] using this
      have hx := flat_get (wayP S) (fullP S 8) i j u hi hu
      rw [← h4] at hx
      have hlt : i * 5 + j < (fullP S 8).length * 5 := by unfold allN at hi; omega
      rw [List.getElem?_take_of_lt hlt, Array.getElem?_toList] at hx
      have := (Array.getElem?_eq_some_iff.1 hx).1
      unfold World.cell?
      simp [hc, hx]
    exact ⟨key 0 _ rfl, key 1 _ rfl, key 2 _ rfl, key 3 _ rfl, key 4 _ rfl⟩
theorem OwnT.below {w w' : World} {base g n c : Nat} {p : Option Addr} {T : Nat → TransX} (h : OwnT w base g p n c T) (hb : Below w.heap.size w w') : OwnT w' base g p n c T := by
  obtain ⟨⟨xs, ho⟩, ha, hr⟩ := h
  refine ⟨⟨xs, ho.1, ?_⟩, fun hn => ⟨(ha hn).1, Nat.lt_of_lt_of_le (ha hn).2 hb.size⟩, fun i hi => (hr i hi).below hb (ha (by omega)).2⟩
  rcases ho.2 with h | ⟨g', cap, cur, e1, e2, e3, e4⟩
  · exact .inl h
  · exact .inr ⟨g', cap, cur, e1, e2, (hb.block g' (Array.getElem?_eq_some_iff.1 e3).1).trans e3, e4⟩
theorem tall_own (w : World) (b : Nat) (S : Nat → TransX × TransX × Int) (hT : TlbAt w b S) (hok : Oks S) :
    Calls Try.prog 49 #[.pointer (some ⟨b, 0, none⟩)] w fun e W' => ∃ p c g, e = .returned (.slice p (allN S) c) ∧ OwnT W' w.heap.size g p (allN S) c (allT S) ∧ Below w.heap.size w W' := by
  refine (callsIn_wide.1 (all_in w b S hT hok.way)).mono ?_
  rintro e W' ⟨v, rfl, hr, hn, hb⟩
  obtain ⟨p, c, g, rfl, ho⟩ := own_of_row hr
  exact ⟨p, c, g, rfl, ho, hb⟩
theorem rall_own (w : World) (b : Nat) (S : Nat → TransX × TransX × Int) (hT : TRef w b S) (hok : Oks S) :
    Calls Try.prog 40 #[.pointer (some ⟨b, 0, none⟩)] w fun e W' => ∃ p c g, e = .returned (.slice p (allN S) c) ∧ OwnT W' w.heap.size g p (allN S) c (allT S) ∧ Below w.heap.size w W' := by
  refine (refAll_any w b S hT hok).mono ?_
  rintro e W' ⟨v, rfl, hr, hb⟩
  obtain ⟨p, c, g, rfl, ho⟩ := own_of_row hr
  exact ⟨p, c, g, rfl, ho, hb⟩
end
/- Chapter 5's own At and Walk. -/
section
set_option linter.unusedVariables false
set_option linter.unusedSimpArgs false
open Go.ChangeShapes Go.WideShapes Go.ChangeAt Go.RowKit Go.Shelf
/-- An entry's cells. -/
def EntAt (w : World) (q : Nat) (v l r x : Bool) (f : Int) : Prop :=
  w.cell? ⟨q, 0, none⟩ = some (.bool v) ∧ w.cell? ⟨q, 1, none⟩ = some (.bool l) ∧ w.cell? ⟨q, 2, none⟩ = some (.bool r) ∧ w.cell? ⟨q, 3, none⟩ = some (.bool x) ∧ w.cell? ⟨q, 4, none⟩ = some (.int .i64 f)
theorem ent_new (W : World) (v l r x : Bool) (f : Int) : EntAt (W.alloc (.cells #[.bool v, .bool l, .bool r, .bool x, .int .i64 f] 56)) W.heap.size v l r x f := by
  refine ⟨?_, ?_, ?_, ?_, ?_⟩ <;> (rw [cellE]; rfl)
theorem EntAt.keep {w w' : World} {q : Nat} {v l r x : Bool} {f : Int} (h : EntAt w q v l r x f) (hq : q < w.heap.size) (hb : Below w.heap.size w w') : EntAt w' q v l r x f := by
  obtain ⟨h0, h1, h2, h3, h4⟩ := h
  have e := cell_of_block (j := 0) (hb.block q hq)
  exact ⟨(cell_of_block (hb.block q hq)).trans h0, (cell_of_block (hb.block q hq)).trans h1, (cell_of_block (hb.block q hq)).trans h2, (cell_of_block (hb.block q hq)).trans h3, (cell_of_block (hb.block q hq)).trans h4⟩
theorem decR_y (w : Nat) (W : World) (hw : w < 2 ^ 64) (h : okB w = true) : Calls Try.prog 69 #[.int .u64 w] W fun e W' =>
    e = .returned (.tuple #[entV (w.testBit 0) (w.testBit 1) (w.testBit 2) (w.testBit 3) ((w / 256 % 64 : Nat) : Int), .int .i64 0]) ∧ Below W.heap.size W W' := decR_both_yes w W hw (okB_iff.1 h)
theorem decR_n (w : Nat) (W : World) (hw : w < 2 ^ 64) (h : okB w = false) : Calls Try.prog 69 #[.int .u64 w] W fun e W' =>
    e = .returned (.tuple #[entV false false false false 0, .int .i64 5]) ∧ Below W.heap.size W W' := decR_both_no w W hw (fun h' => by have := okB_iff.2 h'; rw [h] at this; cases this)
theorem decR_gen (w : Nat) (hw : w < 2 ^ 64) : ∃ (v l r x : Bool) (f cd : Int), (∀ W : World, Calls Try.prog 69 #[.int .u64 w] W fun e W' => e = .returned (.tuple #[entV v l r x f, .int .i64 cd]) ∧ Below W.heap.size W W') ∧
    ((okB w = true ∧ cd = 0 ∧ v = w.testBit 0 ∧ l = w.testBit 1 ∧ r = w.testBit 2 ∧ x = w.testBit 3 ∧ f = ((w / 256 % 64 : Nat) : Int)) ∨ (okB w = false ∧ cd = 5 ∧ v = false ∧ l = false ∧ r = false ∧ x = false ∧ f = 0)) := by
  cases h : okB w with
  | true => exact ⟨_, _, _, _, _, 0, fun W => decR_y w W hw h, .inl ⟨rfl, rfl, rfl, rfl, rfl, rfl, rfl⟩⟩
  | false => exact ⟨_, _, _, _, _, 5, fun W => decR_n w W hw h, .inr ⟨rfl, rfl, rfl, rfl, rfl, rfl, rfl⟩⟩
theorem ent_set {W : World} {q : Nat} {u0 u1 u2 u3 u4 : Value} (c0 : W.cell? ⟨q, 0, none⟩ = some u0) (c1 : W.cell? ⟨q, 1, none⟩ = some u1) (c2 : W.cell? ⟨q, 2, none⟩ = some u2) (c3 : W.cell? ⟨q, 3, none⟩ = some u3) (c4 : W.cell? ⟨q, 4, none⟩ = some u4) (v l r x : Bool) (f : Int) :
    EntAt (((((W.setCell ⟨q, 0, none⟩ (.bool v)).setCell ⟨q, 1, none⟩ (.bool l)).setCell ⟨q, 2, none⟩ (.bool r)).setCell ⟨q, 3, none⟩ (.bool x)).setCell ⟨q, 4, none⟩ (.int .i64 f)) q v l r x f := by
  refine ⟨?_, ?_, ?_, ?_, ?_⟩ <;> simp [go_sem, c0, c1, c2, c3, c4]
/-- What the rest of a round needs of the world behind Decode. -/
def After (w : World) (b g n c : Nat) (m : Nat → Int) (q : Nat) (v l r x : Bool) (f : Int) (V : World) : Prop := EntAt V q v l r x f ∧ RefAt V b g n c m ∧ Below w.heap.size w V
theorem after_a {w wr w3 : World} {b g n c : Nat} {m : Nat → Int} {v l r x : Bool} {f : Int} (hM : RefAt wr b g n c m) (hB : Below w.heap.size w wr) (hb3 : Below wr.drew.heap.size wr.drew w3) :
    After w b g n c m w3.heap.size v l r x f (w3.alloc (.cells #[.bool v, .bool l, .bool r, .bool x, .int .i64 f] 56)) := by
  have h1 : Below wr.heap.size wr w3 := ⟨hb3.os, hb3.tape, hb3.output, hb3.size, hb3.block⟩
  exact ⟨ent_new w3 v l r x f, hM.call (bal h1 _), bgo hB (bal h1 _)⟩
theorem after_b {w wr w3 : World} {b g n c : Nat} {m : Nat → Int} {v l r x : Bool} {f : Int} (hM : RefAt wr b g n c m) (hB : Below w.heap.size w wr) (hb3 : Below (wr.alloc (.cells #[.bool false, .bool false, .bool false, .bool false, .int .i64 0] 56)).drew.heap.size (wr.alloc (.cells #[.bool false, .bool false, .bool false, .bool false, .int .i64 0] 56)).drew w3) :
    After w b g n c m wr.heap.size v l r x f (((((w3.setCell ⟨wr.heap.size, 0, none⟩ (.bool v)).setCell ⟨wr.heap.size, 1, none⟩ (.bool l)).setCell ⟨wr.heap.size, 2, none⟩ (.bool r)).setCell ⟨wr.heap.size, 3, none⟩ (.bool x)).setCell ⟨wr.heap.size, 4, none⟩ (.int .i64 f)) := by
  have h0 : Below (wr.alloc (.cells #[.bool false, .bool false, .bool false, .bool false, .int .i64 0] 56)).heap.size (wr.alloc (.cells #[.bool false, .bool false, .bool false, .bool false, .int .i64 0] 56)) w3 := ⟨hb3.os, hb3.tape, hb3.output, hb3.size, hb3.block⟩
  have h1 : Below wr.heap.size wr w3 := bgo (bal (Below.refl _ _) _) h0
  obtain ⟨e0, e1, e2, e3, e4⟩ := (ent_new wr false false false false 0).keep (by simp) h0
  have h2 := below_set5 h1 (Nat.le_refl _) (.bool v) (.bool l) (.bool r) (.bool x) (.int .i64 f)
  exact ⟨ent_set e0 e1 e2 e3 e4 v l r x f, hM.call h2, bgo hB h2⟩
theorem holdR {a d : World} {b g k : Nat} {v0 v1 : Value} (hb : b < a.heap.size) (hg : g < a.heap.size) (q0 : a.cell? ⟨b, 0, none⟩ = some v0) (q1 : a.cell? ⟨g, k, none⟩ = some v1) (h : Kept a.heap.size a d) :
    d.cell? ⟨b, 0, none⟩ = some v0 ∧ d.cell? ⟨g, k, none⟩ = some v1 ∧ b < d.heap.size ∧ g < d.heap.size ∧ a.heap.size ≤ d.heap.size ∧ Below a.heap.size a d := ⟨h.cell hb q0, h.cell hg q1, h.lt hb, h.lt hg, h.2, h.1⟩
set_option maxRecDepth 100000 in
set_option maxHeartbeats 4000000 in
theorem rat_ok (w : World) (b g n c : Nat) (m : Nat → Int) (r L : Nat) (p : Int) (hM : RefAt w b g n c m) (hr : r < n) (p0 : 0 ≤ p) (p1 : p < 512) (l1 : 1 ≤ L) (l3 : L ≤ 3) :
    Calls Try.prog 68 #[.pointer (some ⟨b, 0, none⟩), .int .i64 r, .int .i64 p, .int .i64 L] w fun e w' => e = .returned (.tuple #[.int .u64 (descF n m p (L - 1) 1 r).1, .int .i64 (descF n m p (L - 1) 1 r).2]) ∧ Below w.heap.size w w' := by
  obtain ⟨⟨ra, rc⟩, hdr⟩ : ∃ z, descF n m p (L - 1) 1 r = z := ⟨_, rfl⟩
  rw [hdr]
  have HDR := Lib.hid hdr
  clear hdr
  have HM := Lib.hid hM
  have hb := hM.lb
  have hr' : (r : Int) < n := by omega
  have l1' : 1 ≤ (L : Int) := by omega
  have l3' : (L : Int) ≤ 3 := by omega
  have hM64 : n ≤ 64 := hM.n64
  have HL1 := Lib.hid l1
  have HL3 := Lib.hid l3
  have HR := Lib.hid hr
  clear hM l1 l3 hr
  go_enter Try.func68, Try.ntmps68
  go_wp2_with (first
    | (go_at_call 70; refine (rframes_any _ b g n c m HM.out).mono ?_; rintro e w1 ⟨rfl, rfl⟩))
  have hrn : r < n := HR.out
  simp only [show decide ((r : Int) < 0) = false from decide_eq_false (by omega), show decide (n ≤ r) = false from decide_eq_false (by omega), show decide (p < 0) = false from decide_eq_false (by omega), show decide (512 ≤ p) = false from decide_eq_false (by omega), show decide ((L : Int) < 1) = false from decide_eq_false (by omega), show decide (3 < (L : Int)) = false from decide_eq_false (by omega), Bool.or_false, Bool.false_or]
  clear hrn
  go_loopw [10, 11] (fun tt i wr => ∃ k t : Nat, 1 ≤ k ∧ k ≤ L ∧ t < n ∧ tt = .int .i64 t ∧ i = .int .i64 k ∧ descF n m p (L - k) k t = (ra, rc) ∧ Hid (RefAt wr b g n c m) ∧ Below w.heap.size w wr) (fun _ i _ => L - (intOf i).toNat)
  case atStart => exact ⟨1, r, by omega, HL1.out, HR.out, rfl, rfl, HDR.out, HM, Below.refl _ _⟩
  case round =>
    obtain ⟨k, t, k1, kL, ht, rfl, rfl, hd, HMr, hB⟩ := hrel
    have HD := Lib.hid hd
    clear hd
    obtain ⟨i0, i1⟩ := indexN_bd p (k : Int) p0 p1
    obtain ⟨i, hi⟩ : ∃ i, indexN p (k : Int) = i := ⟨_, rfl⟩
    rw [hi] at i0 i1
    have HI := Lib.hid hi
    have ht64 : (t : Int) < 64 := by omega
    by_cases hlt : k < L
    · have hlt' : (k : Int) < L := by omega
      have hk : 8 * t + i.toNat < 8 * n := by omega
      have hcell := HMr.out.cells _ hk
      have hword := HMr.out.word (8 * t + i.toNat)
      have hhd := HMr.out.hd
      have hlb := HMr.out.lb
      have hlg := HMr.out.lg
      obtain ⟨x, hx⟩ : ∃ x, (m (8 * t + i.toNat)).toNat = x := ⟨_, rfl⟩
      obtain ⟨hx1, hx2⟩ := word_nat hword
      rw [hx] at hx1 hx2
      rw [hx1] at hcell
      have HX := Lib.hid hx
      have a0 : 0 ≤ 8 * (t : Int) + i := by omega
      have a1 : 8 * (t : Int) + i < ((8 * n : Nat) : Int) := by omega
      have a2 : (8 * (t : Int) + i).toNat = 8 * t + i.toNat := by omega
      have a3 : 8 * (t : Int) + i < 8 * (n : Int) := by omega
      have a4 : IntKind.i64.wrap (8 * (t : Int) + i) = 8 * (t : Int) + i := IntWalk.i64_in _ (by omega)
      have a5 : IntKind.i64.wrap (8 * (t : Int)) = 8 * (t : Int) := IntWalk.i64_in _ (by omega)
      have HK3 : Hid (1 ≤ (k : Int) ∧ (k : Int) ≤ 3) := Lib.hid (by omega)
      clear hx1 hx hword hi
      obtain ⟨v, l, rr, xx, f, cd, hdec, hval⟩ := decR_gen x hx2
      have HDEC := Lib.hid hdec
      have HVAL := Lib.hid hval
      have hK0 : Kept wr.heap.size wr wr := Kept.refl (Nat.le_refl _)
      have hstep : (ra, rc) = if nextC n x = 0 then descF n m p (L - (k + 1)) (k + 1) (x / 256 % 64) else (0, nextC n x) := by
        rw [← HD.out]
        obtain ⟨j, hj⟩ : ∃ j, L - k = j + 1 := ⟨L - k - 1, by omega⟩
        rw [hj, show L - (k + 1) = j by omega]
        show (if nextC n (m (8 * t + (indexN p (k : Int)).toNat)).toNat = 0 then _ else _) = _
        rw [HI.out, HX.out]
      have HST := Lib.hid hstep
      clear hdec hval a0 a1 a2 a3 a4 a5 hstep
      have a0 : 0 ≤ 8 * (t : Int) + i := by omega
      have a1 : 8 * (t : Int) + i < ((8 * n : Nat) : Int) := by omega
      have a2 : (8 * (t : Int) + i).toNat = 8 * t + i.toNat := by omega
      have a3 : 8 * (t : Int) + i < 8 * (n : Int) := by omega
      have a4 : IntKind.i64.wrap (8 * (t : Int) + i) = 8 * (t : Int) + i := IntWalk.i64_in _ (by omega)
      have a5 : IntKind.i64.wrap (8 * (t : Int)) = 8 * (t : Int) := IntWalk.i64_in _ (by omega)
      go_wp2
      go_region_held3 (fun w' => w'.cell? ⟨b, 0, none⟩ = some (.slice (some ⟨g, 0, none⟩) (8 * n) c) ∧ w'.cell? ⟨g, 8 * t + i.toNat, none⟩ = some (.int .u64 x) ∧ b < w'.heap.size ∧ g < w'.heap.size ∧ wr.heap.size ≤ w'.heap.size ∧ Below wr.heap.size wr w')
        (first | (refine holdR hlb hlg hhd hcell ?_; repeat (first | with_reducible exact hK0 | with_reducible refine Kept.drew ?_ | with_reducible refine Kept.drewN ?_ _ | with_reducible refine Kept.alloc ?_ _ | with_reducible refine Kept.set ?_ (by first | (simp; done) | (simp; omega)) _ | with_reducible refine Kept.call ?_ (by assumption))))
        (first
          | (go_at_call 80; with_reducible refine (indexR_yes p k _ p0 p1 HK3.out.1 HK3.out.2).mono ?_; rw [HI.out]; rintro e w2 ⟨rfl, rfl⟩)
          | (go_at_call 69; with_reducible refine (HDEC.out _).mono ?_; rintro e w3 ⟨rfl, hb3⟩; obtain ⟨hc3, hf3⟩ := bcell hb3; (try (have hz3 : wr.heap.size < w3.heap.size := (by have := hb3.size; simp at this; omega)))))
      all_goals clear a0 a1 a2 a3 a4 a5 hK0 hhd hcell
      all_goals (first
        | (have HAF := Lib.hid (after_a (v := v) (l := l) (r := rr) (x := xx) (f := f) HMr.out hB hb3); generalize (w3.alloc (.cells #[.bool v, .bool l, .bool rr, .bool xx, .int .i64 f] 56)) = V at HAF ⊢; generalize w3.heap.size = Q at HAF ⊢)
        | (have HAF := Lib.hid (after_b (v := v) (l := l) (r := rr) (x := xx) (f := f) HMr.out hB hb3); generalize (((((w3.setCell ⟨wr.heap.size, 0, none⟩ (.bool v)).setCell ⟨wr.heap.size, 1, none⟩ (.bool l)).setCell ⟨wr.heap.size, 2, none⟩ (.bool rr)).setCell ⟨wr.heap.size, 3, none⟩ (.bool xx)).setCell ⟨wr.heap.size, 4, none⟩ (.int .i64 f)) = V at HAF ⊢; clear hz3; generalize wr.heap.size = Q at HAF ⊢))
      all_goals clear hb3 hc3 hf3
      all_goals (try clear hz3)
      all_goals
        obtain ⟨⟨y0, y1, y2, y3, y4⟩, hMV, hB2⟩ := HAF.out
        have hQ := World.block_lt_of_cell? V _ y0
        simp only at hQ
        have R0 := Lib.hid (fun w' (hw : KeptQ V.heap.size V w') => (hw.1.cell (p := ⟨Q, 0, none⟩) hQ).trans y0)
        have R1 := Lib.hid (fun w' (hw : KeptQ V.heap.size V w') => (hw.1.cell (p := ⟨Q, 1, none⟩) hQ).trans y1)
        have R4 := Lib.hid (fun w' (hw : KeptQ V.heap.size V w') => (hw.1.cell (p := ⟨Q, 4, none⟩) hQ).trans y4)
        have RM := Lib.hid (fun w' (hw : KeptQ V.heap.size V w') => hMV.call hw.1)
        have RB := Lib.hid (fun w' (hw : KeptQ V.heap.size V w') => bgo hB2 hw.1)
        clear hMV HAF y0 y1 y2 y3 y4 hQ
        rcases HVAL.out with ⟨ho, rfl, hv, hl, hrr, hxx, hff⟩ | ⟨ho, rfl, rfl, rfl, rfl, rfl, rfl⟩
        · clear HVAL hrr hxx
          cases v
          · have hT : (ra, rc) = ((0, 6) : Int × Int) := by
              have hc : nextC n x = 6 := by unfold nextC entC; simp [ho, ← hv]
              rw [HST.out, hc]; rfl
            obtain ⟨rfl, rfl⟩ := Prod.mk.inj hT
            clear hT ho hv hl HST HD
            go_wp2
            refine wp_region_keptQ V.heap.size V (by kernel_rfl) (by kernel_rfl) (KeptQ.refl (Nat.le_refl _)) ?_
            repeat (first
              | go_big_quiet_skip
              | (go_big_quiet_want; first
                | (refine quietQ_load_cell 4 _ rfl ⟨Q, 0, none⟩ rfl _ R0.out _ Try.underlying4 rfl ?_; simp only [Act.put, List.setIfInBounds_toArray, List.set_cons_zero, List.set_cons_succ]; go_big_quiet_on)
                | (refine quietQ_load_cell 4 _ rfl ⟨Q, 1, none⟩ rfl _ R1.out _ Try.underlying4 rfl ?_; simp only [Act.put, List.setIfInBounds_toArray, List.set_cons_zero, List.set_cons_succ]; go_big_quiet_on)
                | (refine quietQ_load_cell 3 _ rfl ⟨Q, 4, none⟩ rfl _ R4.out _ Try.underlying3 rfl ?_; simp only [Act.put, List.setIfInBounds_toArray, List.set_cons_zero, List.set_cons_succ]; go_big_quiet_on)
                | (go_big_quiet_op; first
                  | go_big_quiet_on
                  | (refine ⟨_, fun _ _ => rfl, ?_⟩; go_big_quiet_on)
                  | go_big_quiet_call ((intro hw; first
                    | (go_at_call 70; refine (rframes_any _ b g n c m (RM.out _ hw)).mono ?_; rintro e w7 ⟨rfl, rfl⟩; exact ⟨rfl, hw⟩))))))
            refine wpQuiet_nil ?_
            intro w7 hw7
            have z0 := R0.out _ hw7
            have z4 := R4.out _ hw7
            have HM7 := Lib.hid (RM.out _ hw7)
            have HB7 := Lib.hid (RB.out _ hw7)
            clear R0 R1 R4 RM RB hw7
            go_wp2
            go_ret2
            exact ⟨rfl, HB7.out⟩
          · cases l
            · by_cases hfn : x / 256 % 64 < n
              · have hfn' : f < (n : Int) := by omega
                have hT : (ra, rc) = descF n m p (L - (k + 1)) (k + 1) (x / 256 % 64) := by
                  have hc : nextC n x = 0 := by unfold nextC entC; simp [ho, ← hv, ← hl, hfn]
                  rw [HST.out, if_pos hc]
                have HT := Lib.hid hT
                have HFF := Lib.hid hff
                have HFN := Lib.hid hfn
                clear hT ho hv hl HST HD hff hfn
                go_wp2
                refine wp_region_keptQ V.heap.size V (by kernel_rfl) (by kernel_rfl) (KeptQ.refl (Nat.le_refl _)) ?_
                repeat (first
                  | go_big_quiet_skip
                  | (go_big_quiet_want; first
                    | (refine quietQ_load_cell 4 _ rfl ⟨Q, 0, none⟩ rfl _ R0.out _ Try.underlying4 rfl ?_; simp only [Act.put, List.setIfInBounds_toArray, List.set_cons_zero, List.set_cons_succ]; go_big_quiet_on)
                    | (refine quietQ_load_cell 4 _ rfl ⟨Q, 1, none⟩ rfl _ R1.out _ Try.underlying4 rfl ?_; simp only [Act.put, List.setIfInBounds_toArray, List.set_cons_zero, List.set_cons_succ]; go_big_quiet_on)
                    | (refine quietQ_load_cell 3 _ rfl ⟨Q, 4, none⟩ rfl _ R4.out _ Try.underlying3 rfl ?_; simp only [Act.put, List.setIfInBounds_toArray, List.set_cons_zero, List.set_cons_succ]; go_big_quiet_on)
                    | (go_big_quiet_op; first
                      | go_big_quiet_on
                      | (refine ⟨_, fun _ _ => rfl, ?_⟩; go_big_quiet_on)
                      | go_big_quiet_call ((intro hw; first
                        | (go_at_call 70; refine (rframes_any _ b g n c m (RM.out _ hw)).mono ?_; rintro e w7 ⟨rfl, rfl⟩; exact ⟨rfl, hw⟩))))))
                refine wpQuiet_nil ?_
                intro w7 hw7
                have z0 := R0.out _ hw7
                have z4 := R4.out _ hw7
                have HM7 := Lib.hid (RM.out _ hw7)
                have HB7 := Lib.hid (RB.out _ hw7)
                clear R0 R1 R4 RM RB hw7
                go_wp2
                go_roundw
                case rel => first | exact ⟨k + 1, x / 256 % 64, by omega, by omega, HFN.out, congrArg (Value.int IntKind.i64) HFF.out, by go_num, HT.out.symm, HM7, HB7.out⟩ | ((repeat apply Exists.intro); exact ⟨⟨k + 1, x / 256 % 64, by omega, by omega, HFN.out, congrArg (Value.int IntKind.i64) HFF.out, by go_num, HT.out.symm, HM7, HB7.out⟩, rfl⟩)
                case measure => simp [intOf]; omega
              · have hfn' : (n : Int) ≤ f := by omega
                have hT : (ra, rc) = ((0, 5) : Int × Int) := by
                  have hc : nextC n x = 5 := by unfold nextC entC; simp [ho, ← hv, ← hl, hfn]
                  rw [HST.out, hc]; rfl
                obtain ⟨rfl, rfl⟩ := Prod.mk.inj hT
                clear hT ho hv hl HST HD hff hfn
                go_wp2
                refine wp_region_keptQ V.heap.size V (by kernel_rfl) (by kernel_rfl) (KeptQ.refl (Nat.le_refl _)) ?_
                repeat (first
                  | go_big_quiet_skip
                  | (go_big_quiet_want; first
                    | (refine quietQ_load_cell 4 _ rfl ⟨Q, 0, none⟩ rfl _ R0.out _ Try.underlying4 rfl ?_; simp only [Act.put, List.setIfInBounds_toArray, List.set_cons_zero, List.set_cons_succ]; go_big_quiet_on)
                    | (refine quietQ_load_cell 4 _ rfl ⟨Q, 1, none⟩ rfl _ R1.out _ Try.underlying4 rfl ?_; simp only [Act.put, List.setIfInBounds_toArray, List.set_cons_zero, List.set_cons_succ]; go_big_quiet_on)
                    | (refine quietQ_load_cell 3 _ rfl ⟨Q, 4, none⟩ rfl _ R4.out _ Try.underlying3 rfl ?_; simp only [Act.put, List.setIfInBounds_toArray, List.set_cons_zero, List.set_cons_succ]; go_big_quiet_on)
                    | (go_big_quiet_op; first
                      | go_big_quiet_on
                      | (refine ⟨_, fun _ _ => rfl, ?_⟩; go_big_quiet_on)
                      | go_big_quiet_call ((intro hw; first
                        | (go_at_call 70; refine (rframes_any _ b g n c m (RM.out _ hw)).mono ?_; rintro e w7 ⟨rfl, rfl⟩; exact ⟨rfl, hw⟩))))))
                refine wpQuiet_nil ?_
                intro w7 hw7
                have z0 := R0.out _ hw7
                have z4 := R4.out _ hw7
                have HM7 := Lib.hid (RM.out _ hw7)
                have HB7 := Lib.hid (RB.out _ hw7)
                clear R0 R1 R4 RM RB hw7
                go_wp2
                go_ret2
                exact ⟨rfl, HB7.out⟩
            · have hT : (ra, rc) = ((0, 5) : Int × Int) := by
                have hc : nextC n x = 5 := by unfold nextC entC; by_cases hfn : x / 256 % 64 < n <;> simp [ho, ← hv, ← hl, hfn]
                rw [HST.out, hc]; rfl
              obtain ⟨rfl, rfl⟩ := Prod.mk.inj hT
              clear hT ho hv hl HST HD hff
              go_wp2
              refine wp_region_keptQ V.heap.size V (by kernel_rfl) (by kernel_rfl) (KeptQ.refl (Nat.le_refl _)) ?_
              repeat (first
                | go_big_quiet_skip
                | (go_big_quiet_want; first
                  | (refine quietQ_load_cell 4 _ rfl ⟨Q, 0, none⟩ rfl _ R0.out _ Try.underlying4 rfl ?_; simp only [Act.put, List.setIfInBounds_toArray, List.set_cons_zero, List.set_cons_succ]; go_big_quiet_on)
                  | (refine quietQ_load_cell 4 _ rfl ⟨Q, 1, none⟩ rfl _ R1.out _ Try.underlying4 rfl ?_; simp only [Act.put, List.setIfInBounds_toArray, List.set_cons_zero, List.set_cons_succ]; go_big_quiet_on)
                  | (refine quietQ_load_cell 3 _ rfl ⟨Q, 4, none⟩ rfl _ R4.out _ Try.underlying3 rfl ?_; simp only [Act.put, List.setIfInBounds_toArray, List.set_cons_zero, List.set_cons_succ]; go_big_quiet_on)
                  | (go_big_quiet_op; first
                    | go_big_quiet_on
                    | (refine ⟨_, fun _ _ => rfl, ?_⟩; go_big_quiet_on)
                    | go_big_quiet_call ((intro hw; first
                      | (go_at_call 70; refine (rframes_any _ b g n c m (RM.out _ hw)).mono ?_; rintro e w7 ⟨rfl, rfl⟩; exact ⟨rfl, hw⟩))))))
              refine wpQuiet_nil ?_
              intro w7 hw7
              have z0 := R0.out _ hw7
              have z4 := R4.out _ hw7
              have HM7 := Lib.hid (RM.out _ hw7)
              have HB7 := Lib.hid (RB.out _ hw7)
              clear R0 R1 R4 RM RB hw7
              go_wp2
              go_ret2
              exact ⟨rfl, HB7.out⟩
        · have hT : (ra, rc) = ((0, 5) : Int × Int) := by
            have hc : nextC n x = 5 := by unfold nextC entC; simp [ho]
            rw [HST.out, hc]; rfl
          obtain ⟨rfl, rfl⟩ := Prod.mk.inj hT
          clear hT ho HST HD HVAL
          go_wp2
          refine wp_region_keptQ V.heap.size V (by kernel_rfl) (by kernel_rfl) (KeptQ.refl (Nat.le_refl _)) ?_
          repeat (first
            | go_big_quiet_skip
            | (go_big_quiet_want; first
              | (refine quietQ_load_cell 4 _ rfl ⟨Q, 0, none⟩ rfl _ R0.out _ Try.underlying4 rfl ?_; simp only [Act.put, List.setIfInBounds_toArray, List.set_cons_zero, List.set_cons_succ]; go_big_quiet_on)
              | (refine quietQ_load_cell 4 _ rfl ⟨Q, 1, none⟩ rfl _ R1.out _ Try.underlying4 rfl ?_; simp only [Act.put, List.setIfInBounds_toArray, List.set_cons_zero, List.set_cons_succ]; go_big_quiet_on)
              | (refine quietQ_load_cell 3 _ rfl ⟨Q, 4, none⟩ rfl _ R4.out _ Try.underlying3 rfl ?_; simp only [Act.put, List.setIfInBounds_toArray, List.set_cons_zero, List.set_cons_succ]; go_big_quiet_on)
              | (go_big_quiet_op; first
                | go_big_quiet_on
                | (refine ⟨_, fun _ _ => rfl, ?_⟩; go_big_quiet_on)
                | go_big_quiet_call ((intro hw; first
                  | (go_at_call 70; refine (rframes_any _ b g n c m (RM.out _ hw)).mono ?_; rintro e w7 ⟨rfl, rfl⟩; exact ⟨rfl, hw⟩))))))
          refine wpQuiet_nil ?_
          intro w7 hw7
          have z0 := R0.out _ hw7
          have z4 := R4.out _ hw7
          have HM7 := Lib.hid (RM.out _ hw7)
          have HB7 := Lib.hid (RB.out _ hw7)
          clear R0 R1 R4 RM RB hw7
          go_wp2
          go_ret2
          exact ⟨rfl, HB7.out⟩
    · obtain rfl : k = L := by omega
      have hT : (ra, rc) = (64 * (t : Int) + 8 * i, (0 : Int)) := by
        rw [← HD.out, Nat.sub_self]
        show (64 * (t : Int) + 8 * indexN p (k : Int), (0 : Int)) = _
        rw [HI.out]
      obtain ⟨rfl, rfl⟩ := Prod.mk.inj hT
      have hL3 := HL3.out
      have hL1 := HL1.out
      clear hT HD
      go_wp2_with (first
        | (go_at_call 80; refine (indexR_yes p k _ p0 p1 (by omega) (by omega)).mono ?_; rw [HI.out]; rintro e w2 ⟨rfl, rfl⟩))
      go_ret2
      exact ⟨rfl, hB⟩
theorem rat_nil (w : World) (r p l : Int) : Calls Try.prog 68 #[.pointer none, .int .i64 r, .int .i64 p, .int .i64 l] w fun e w' => e = .returned (.tuple #[.int .u64 0, .int .i64 1]) ∧ Below w.heap.size w w' := by
  go_enter Try.func68, Try.ntmps68
  go_wp2
  go_ret2
  exact ⟨rfl, Below.refl _ _⟩
theorem rat_bad (w : World) (b g n c : Nat) (m : Nat → Int) (r p l : Int) (hM : RefAt w b g n c m) (h : ¬ (0 ≤ r ∧ r < n ∧ 0 ≤ p ∧ p < 512 ∧ 1 ≤ l ∧ l ≤ 3)) :
    Calls Try.prog 68 #[.pointer (some ⟨b, 0, none⟩), .int .i64 r, .int .i64 p, .int .i64 l] w fun e w' => e = .returned (.tuple #[.int .u64 0, .int .i64 3]) ∧ Below w.heap.size w w' := by
  have HM := Lib.hid hM
  clear hM
  by_cases h1 : r < 0
  · clear h
    go_enter Try.func68, Try.ntmps68
    go_wp2_with (first
      | (go_at_call 70; refine (rframes_any _ b g n c m HM.out).mono ?_; rintro e w1 ⟨rfl, rfl⟩))
    go_ret2
    exact ⟨rfl, Below.refl _ _⟩
  by_cases h2 : (n : Int) ≤ r
  · clear h
    go_enter Try.func68, Try.ntmps68
    go_wp2_with (first
      | (go_at_call 70; refine (rframes_any _ b g n c m HM.out).mono ?_; rintro e w1 ⟨rfl, rfl⟩))
    go_ret2
    exact ⟨rfl, Below.refl _ _⟩
  by_cases h3 : p < 0
  · clear h
    go_enter Try.func68, Try.ntmps68
    go_wp2_with (first
      | (go_at_call 70; refine (rframes_any _ b g n c m HM.out).mono ?_; rintro e w1 ⟨rfl, rfl⟩))
    go_ret2
    exact ⟨rfl, Below.refl _ _⟩
  by_cases h4 : 512 ≤ p
  · clear h
    go_enter Try.func68, Try.ntmps68
    go_wp2_with (first
      | (go_at_call 70; refine (rframes_any _ b g n c m HM.out).mono ?_; rintro e w1 ⟨rfl, rfl⟩))
    go_ret2
    exact ⟨rfl, Below.refl _ _⟩
  by_cases h5 : l < 1
  · clear h
    go_enter Try.func68, Try.ntmps68
    go_wp2_with (first
      | (go_at_call 70; refine (rframes_any _ b g n c m HM.out).mono ?_; rintro e w1 ⟨rfl, rfl⟩))
    go_ret2
    exact ⟨rfl, Below.refl _ _⟩
  have h6 : 3 < l := by omega
  clear h
  go_enter Try.func68, Try.ntmps68
  go_wp2_with (first
    | (go_at_call 70; refine (rframes_any _ b g n c m HM.out).mono ?_; rintro e w1 ⟨rfl, rfl⟩))
  go_ret2
  exact ⟨rfl, Below.refl _ _⟩
theorem rat_gen (w : World) (b g n c : Nat) (m : Nat → Int) (r p l : Int) (hM : RefAt w b g n c m) :
    Calls Try.prog 68 #[.pointer (some ⟨b, 0, none⟩), .int .i64 r, .int .i64 p, .int .i64 l] w fun e w' => e = .returned (.tuple #[.int .u64 (atF n m r p l).1, .int .i64 (atF n m r p l).2]) ∧ Below w.heap.size w w' := by
  by_cases h : 0 ≤ r ∧ r < n ∧ 0 ≤ p ∧ p < 512 ∧ 1 ≤ l ∧ l ≤ 3
  · unfold atF
    rw [if_pos h]
    obtain ⟨R, rfl⟩ := Int.eq_ofNat_of_zero_le h.1
    obtain ⟨L, rfl⟩ := Int.eq_ofNat_of_zero_le (show 0 ≤ l by omega)
    simp only [Int.toNat_natCast]
    exact rat_ok w b g n c m R L p hM (by omega) h.2.2.1 h.2.2.2.1 (by omega) (by omega)
  · have e : atF n m r p l = (0, 3) := by unfold atF; rw [if_neg h]
    rw [e]
    exact rat_bad w b g n c m r p l hM h
/-- What Walk tells, whatever comes. -/
def walkV (n : Nat) (m : Nat → Int) (r p : Int) : Value := if walkC n m r p = 0 then entW (leafW m (atF n m r p 3).1) else entV false false false false 0
theorem walk_gen (w : World) (b g n c : Nat) (m : Nat → Int) (r p : Int) (hM : MemAt w b g n c m) :
    Calls Try.prog 25 #[.pointer (some ⟨b, 0, none⟩), .int .i64 r, .int .i64 p] w fun e w' => e = .returned (.tuple #[walkV n m r p, .int .i64 (walkC n m r p)]) ∧ Below w.heap.size w w' := by
  by_cases h : walkC n m r p = 0
  · unfold walkV
    rw [if_pos h, h]
    exact walk_ok w b g n c m r p hM h
  · unfold walkV
    rw [if_neg h]
    exact walk_no w b g n c m r p _ hM rfl h
set_option maxHeartbeats 4000000 in
theorem rwalk_gen (w : World) (b g n c : Nat) (m : Nat → Int) (r p : Int) (hM : RefAt w b g n c m) :
    Calls Try.prog 52 #[.pointer (some ⟨b, 0, none⟩), .int .i64 r, .int .i64 p] w fun e w' => e = .returned (.tuple #[walkV n m r p, .int .i64 (walkC n m r p)]) ∧ Below w.heap.size w w' := by
  obtain ⟨⟨a, c0⟩, hac⟩ : ∃ z, atF n m r p 3 = z := ⟨_, rfl⟩
  have HAC := Lib.hid hac
  have HM := Lib.hid hM
  have hhd := hM.hd
  have hlb := hM.lb
  have hlg := hM.lg
  by_cases h0 : c0 = 0
  · subst h0
    obtain ⟨k, hk, ha⟩ := at_addr (show (atF n m r p 3).2 = 0 by rw [hac])
    rw [hac] at ha
    simp only at ha
    have hlw : leafW m a = (m k).toNat := by unfold leafW; rw [ha]; congr 2; omega
    have hcell := hM.cells k hk
    have hn64 := hM.n64
    have hcap := hM.cap
    obtain ⟨x, hx⟩ : ∃ x, (m k).toNat = x := ⟨_, rfl⟩
    obtain ⟨hx1, hx2⟩ := word_nat (hM.word k)
    rw [hx] at hx1 hx2 hlw
    rw [hx1] at hcell
    have hwc : walkC n m r p = leafC n x := by unfold walkC; rw [hac]; simp only [if_true]; rw [hlw]
    have hwv : leafW m (atF n m r p 3).1 = x := by rw [hac]; exact hlw
    have a0 : 0 ≤ a := by omega
    have a1 : a ≤ 4096 := by omega
    have a4 : 0 ≤ a / 8 := by omega
    have a5 : a / 8 < 8 * (n : Int) := by omega
    have a6 : a / 8 < ((8 * n : Nat) : Int) := by omega
    have a7 : (a / 8).toNat = k := by omega
    obtain ⟨v, l, rr, xx, f, cd, hdec, hval⟩ := decR_gen x hx2
    have HDEC := Lib.hid hdec
    have HVAL := Lib.hid hval
    have HWC := Lib.hid hwc
    have HWV := Lib.hid hwv
    clear hdec hval hx1 hx2 hlw ha hac hM hx hwc hwv
    go_enter Try.func52, Try.ntmps52
    go_wp2_with (first
      | (go_at_call 68; refine (rat_gen _ b g n c m r p 3 (HM.out.call (bal (Below.refl _ _) _))).mono ?_; rw [HAC.out]; rintro e w1 ⟨rfl, hb1⟩; obtain ⟨hc1, hf1⟩ := bcell hb1; have hz1 : w.heap.size < w1.heap.size := (by have := hb1.size; simp at this; omega); have hbl1 : b < w1.heap.size := (by omega); have hgl1 : g < w1.heap.size := (by omega); have hd1 := (HM.out.call (bgo (bal (Below.refl _ _) _) hb1)).hd; have hk1 := ((HM.out.call (bgo (bal (Below.refl _ _) _) hb1)).cells k hk))
      | (go_at_call 69; refine (HDEC.out _).mono ?_; rintro e w2 ⟨rfl, hb2⟩; obtain ⟨hc2, hf2⟩ := bcell hb2; have hz2 : w.heap.size < w2.heap.size := (by have := hb2.size; omega)))
    obtain ⟨V, hV⟩ : ∃ V, V = w2.alloc (.cells #[.bool v, .bool l, .bool rr, .bool xx, .int .i64 f] 56) := ⟨_, rfl⟩
    have hE := ent_new w2 v l rr xx f
    have hB3 : Below w2.heap.size w2 V := by rw [hV]; exact bal (Below.refl _ _) _
    rw [← hV] at hE ⊢
    obtain ⟨y0, y1, y2, y3, y4⟩ := hE
    have hQ : w2.heap.size < V.heap.size := by rw [hV]; simp
    have BV : Below w.heap.size w V := bgo (bgo (bgo (bal (Below.refl _ _) _) hb1) hb2) hB3
    have hzV : w.heap.size < V.heap.size := by omega
    have MV := ((HM.out.call (bgo (bal (Below.refl _ _) _) hb1)).call hb2).call hB3
    have r0 : V.cell? ⟨w.heap.size, 0, none⟩ = some (.bool false) := (hB3.cell (p := ⟨w.heap.size, 0, none⟩) hz2).trans ((hc2 _ _ hz1).trans ((hc1 _ _ (by simp)).trans (by rw [cellE]; rfl)))
    have r1 : V.cell? ⟨w.heap.size, 1, none⟩ = some (.bool false) := (hB3.cell (p := ⟨w.heap.size, 1, none⟩) hz2).trans ((hc2 _ _ hz1).trans ((hc1 _ _ (by simp)).trans (by rw [cellE]; rfl)))
    have r2 : V.cell? ⟨w.heap.size, 2, none⟩ = some (.bool false) := (hB3.cell (p := ⟨w.heap.size, 2, none⟩) hz2).trans ((hc2 _ _ hz1).trans ((hc1 _ _ (by simp)).trans (by rw [cellE]; rfl)))
    have r3 : V.cell? ⟨w.heap.size, 3, none⟩ = some (.bool false) := (hB3.cell (p := ⟨w.heap.size, 3, none⟩) hz2).trans ((hc2 _ _ hz1).trans ((hc1 _ _ (by simp)).trans (by rw [cellE]; rfl)))
    have r4 : V.cell? ⟨w.heap.size, 4, none⟩ = some (.int .i64 0) := (hB3.cell (p := ⟨w.heap.size, 4, none⟩) hz2).trans ((hc2 _ _ hz1).trans ((hc1 _ _ (by simp)).trans (by rw [cellE]; rfl)))
    have fr : ∀ j, V.frozen? ⟨w.heap.size, j, none⟩ = false := fun j => (hB3.frozen (p := ⟨w.heap.size, j, none⟩) hz2).trans ((hf2 _ _ hz1).trans ((hf1 _ _ (by simp)).trans (frozE _ _ _ _)))
    have RZ := Lib.hid (fun w' (hw : KeptQ V.heap.size V w') => (⟨(hw.1.cell (p := ⟨w.heap.size, 0, none⟩) hzV).trans r0, (hw.1.cell (p := ⟨w.heap.size, 1, none⟩) hzV).trans r1, (hw.1.cell (p := ⟨w.heap.size, 2, none⟩) hzV).trans r2, (hw.1.cell (p := ⟨w.heap.size, 3, none⟩) hzV).trans r3, (hw.1.cell (p := ⟨w.heap.size, 4, none⟩) hzV).trans r4⟩ : EntAt w' w.heap.size false false false false 0))
    have RF := Lib.hid (fun w' (hw : KeptQ V.heap.size V w') j => (hw.1.frozen (p := ⟨w.heap.size, j, none⟩) hzV).trans (fr j))
    have R0 := Lib.hid (fun w' (hw : KeptQ V.heap.size V w') => (hw.1.cell (p := ⟨w2.heap.size, 0, none⟩) hQ).trans y0)
    have R1 := Lib.hid (fun w' (hw : KeptQ V.heap.size V w') => (hw.1.cell (p := ⟨w2.heap.size, 1, none⟩) hQ).trans y1)
    have R2 := Lib.hid (fun w' (hw : KeptQ V.heap.size V w') => (hw.1.cell (p := ⟨w2.heap.size, 2, none⟩) hQ).trans y2)
    have R3 := Lib.hid (fun w' (hw : KeptQ V.heap.size V w') => (hw.1.cell (p := ⟨w2.heap.size, 3, none⟩) hQ).trans y3)
    have R4 := Lib.hid (fun w' (hw : KeptQ V.heap.size V w') => (hw.1.cell (p := ⟨w2.heap.size, 4, none⟩) hQ).trans y4)
    have RM := Lib.hid (fun w' (hw : KeptQ V.heap.size V w') => MV.call hw.1)
    have RB := Lib.hid (fun w' (hw : KeptQ V.heap.size V w') => bgo BV hw.1)
    have hne : w.heap.size ≠ w2.heap.size := Nat.ne_of_lt hz2
    clear hV y0 y1 y2 y3 y4 hB3 BV MV r0 r1 r2 r3 r4 fr hc1 hf1 hc2 hf2 hb1 hb2
    rcases HVAL.out with ⟨ho, rfl, hv, hl, hrr, hxx, hff⟩ | ⟨ho, rfl, rfl, rfl, rfl, rfl, rfl⟩
    · clear HVAL
      cases v
      · clear hrr hxx
        have hres : Ending.returned (.tuple #[entV false false false false 0, .int .i64 6]) = .returned (.tuple #[walkV n m r p, .int .i64 (walkC n m r p)]) := by
          have e : walkC n m r p = 6 := by rw [HWC.out]; unfold leafC entC; simp [ho, ← hv]
          have e2 : walkV n m r p = entV false false false false 0 := by unfold walkV; rw [if_neg (by rw [e]; decide)]
          rw [e, e2]
        have HRES := Lib.hid hres
        clear hres ho hv hl
        go_wp2
        refine wp_region_keptQ V.heap.size V (by kernel_rfl) (by kernel_rfl) (KeptQ.refl (Nat.le_refl _)) ?_
        repeat (first
          | go_big_quiet_skip
          | (go_big_quiet_want; first
            | (refine quietQ_load_cell 4 _ rfl ⟨w2.heap.size, 0, none⟩ rfl _ R0.out _ Try.underlying4 rfl ?_; simp only [Act.put, List.setIfInBounds_toArray, List.set_cons_zero, List.set_cons_succ]; go_big_quiet_on)
            | (refine quietQ_load_cell 4 _ rfl ⟨w2.heap.size, 1, none⟩ rfl _ R1.out _ Try.underlying4 rfl ?_; simp only [Act.put, List.setIfInBounds_toArray, List.set_cons_zero, List.set_cons_succ]; go_big_quiet_on)
            | (refine quietQ_load_cell 3 _ rfl ⟨w2.heap.size, 4, none⟩ rfl _ R4.out _ Try.underlying3 rfl ?_; simp only [Act.put, List.setIfInBounds_toArray, List.set_cons_zero, List.set_cons_succ]; go_big_quiet_on)
            | (go_big_quiet_op; first
              | go_big_quiet_on
              | (refine ⟨_, fun _ _ => rfl, ?_⟩; go_big_quiet_on)
              | go_big_quiet_call ((intro hw; first
                | (go_at_call 70; refine (rframes_any _ b g n c m (RM.out _ hw)).mono ?_; rintro e w7 ⟨rfl, rfl⟩; exact ⟨rfl, hw⟩))))))
        refine wpQuiet_nil ?_
        intro w7 hw7
        have z0 := R0.out _ hw7
        have z1 := R1.out _ hw7
        have z2 := R2.out _ hw7
        have z3 := R3.out _ hw7
        have z4 := R4.out _ hw7
        obtain ⟨r0, r1, r2, r3, r4⟩ := RZ.out _ hw7
        have g0 := RF.out _ hw7 0
        have g1 := RF.out _ hw7 1
        have g2 := RF.out _ hw7 2
        have g3 := RF.out _ hw7 3
        have g4 := RF.out _ hw7 4
        have HB7 := RB.out _ hw7
        have hz7 : w.heap.size < w7.heap.size := Nat.lt_of_lt_of_le hzV hw7.1.size
        clear R0 R1 R2 R3 R4 RM RB RZ RF hw7
        go_wp2
        exact bodyPost_ret (v := .tuple #[entV false false false false 0, .int .i64 6]) (by simp [results, Try.results52, go_sem, r0, r1, r2, r3, r4, hne]) rfl ⟨HRES.out, by repeat (first | with_reducible exact HB7 | with_reducible refine Below.drew ?_ | with_reducible refine Below.setCell ?_ (by first | with_reducible exact Nat.le_refl _ | (simp; done) | (simp; omega)) _)⟩
      · by_cases hfn : x / 256 % 64 < n
        · have hfn' : f < (n : Int) := by omega
          cases l
          · clear hrr hxx
            have hres : Ending.returned (.tuple #[entV false false false false 0, .int .i64 5]) = .returned (.tuple #[walkV n m r p, .int .i64 (walkC n m r p)]) := by
              have e : walkC n m r p = 5 := by rw [HWC.out]; unfold leafC entC; simp [ho, ← hv, ← hl, hfn]
              have e2 : walkV n m r p = entV false false false false 0 := by unfold walkV; rw [if_neg (by rw [e]; decide)]
              rw [e, e2]
            have HRES := Lib.hid hres
            clear hres ho hv hl hfn
            go_wp2
            refine wp_region_keptQ V.heap.size V (by kernel_rfl) (by kernel_rfl) (KeptQ.refl (Nat.le_refl _)) ?_
            repeat (first
              | go_big_quiet_skip
              | (go_big_quiet_want; first
                | (refine quietQ_load_cell 4 _ rfl ⟨w2.heap.size, 0, none⟩ rfl _ R0.out _ Try.underlying4 rfl ?_; simp only [Act.put, List.setIfInBounds_toArray, List.set_cons_zero, List.set_cons_succ]; go_big_quiet_on)
                | (refine quietQ_load_cell 4 _ rfl ⟨w2.heap.size, 1, none⟩ rfl _ R1.out _ Try.underlying4 rfl ?_; simp only [Act.put, List.setIfInBounds_toArray, List.set_cons_zero, List.set_cons_succ]; go_big_quiet_on)
                | (refine quietQ_load_cell 3 _ rfl ⟨w2.heap.size, 4, none⟩ rfl _ R4.out _ Try.underlying3 rfl ?_; simp only [Act.put, List.setIfInBounds_toArray, List.set_cons_zero, List.set_cons_succ]; go_big_quiet_on)
                | (go_big_quiet_op; first
                  | go_big_quiet_on
                  | (refine ⟨_, fun _ _ => rfl, ?_⟩; go_big_quiet_on)
                  | go_big_quiet_call ((intro hw; first
                    | (go_at_call 70; refine (rframes_any _ b g n c m (RM.out _ hw)).mono ?_; rintro e w7 ⟨rfl, rfl⟩; exact ⟨rfl, hw⟩))))))
            refine wpQuiet_nil ?_
            intro w7 hw7
            have z0 := R0.out _ hw7
            have z1 := R1.out _ hw7
            have z2 := R2.out _ hw7
            have z3 := R3.out _ hw7
            have z4 := R4.out _ hw7
            obtain ⟨r0, r1, r2, r3, r4⟩ := RZ.out _ hw7
            have g0 := RF.out _ hw7 0
            have g1 := RF.out _ hw7 1
            have g2 := RF.out _ hw7 2
            have g3 := RF.out _ hw7 3
            have g4 := RF.out _ hw7 4
            have HB7 := RB.out _ hw7
            have hz7 : w.heap.size < w7.heap.size := Nat.lt_of_lt_of_le hzV hw7.1.size
            clear R0 R1 R2 R3 R4 RM RB RZ RF hw7
            go_wp2
            exact bodyPost_ret (v := .tuple #[entV false false false false 0, .int .i64 5]) (by simp [results, Try.results52, go_sem, r0, r1, r2, r3, r4, hne]) rfl ⟨HRES.out, by repeat (first | with_reducible exact HB7 | with_reducible refine Below.drew ?_ | with_reducible refine Below.setCell ?_ (by first | with_reducible exact Nat.le_refl _ | (simp; done) | (simp; omega)) _)⟩
          · have hres : Ending.returned (.tuple #[entV true true rr xx f, .int .i64 0]) = .returned (.tuple #[walkV n m r p, .int .i64 (walkC n m r p)]) := by
              have e : walkC n m r p = 0 := by rw [HWC.out]; unfold leafC entC; simp [ho, ← hv, ← hl, hfn]
              have e2 : walkV n m r p = entV true true rr xx f := by unfold walkV; rw [if_pos e, HWV.out]; unfold entW; rw [← hl, ← hrr, ← hxx, hff]
              rw [e, e2]
            have HRES := Lib.hid hres
            clear hres ho hv hl hrr hxx hfn hff
            go_wp2
            refine wp_region_keptQ V.heap.size V (by kernel_rfl) (by kernel_rfl) (KeptQ.refl (Nat.le_refl _)) ?_
            repeat (first
              | go_big_quiet_skip
              | (go_big_quiet_want; first
                | (refine quietQ_load_cell 4 _ rfl ⟨w2.heap.size, 0, none⟩ rfl _ R0.out _ Try.underlying4 rfl ?_; simp only [Act.put, List.setIfInBounds_toArray, List.set_cons_zero, List.set_cons_succ]; go_big_quiet_on)
                | (refine quietQ_load_cell 4 _ rfl ⟨w2.heap.size, 1, none⟩ rfl _ R1.out _ Try.underlying4 rfl ?_; simp only [Act.put, List.setIfInBounds_toArray, List.set_cons_zero, List.set_cons_succ]; go_big_quiet_on)
                | (refine quietQ_load_cell 3 _ rfl ⟨w2.heap.size, 4, none⟩ rfl _ R4.out _ Try.underlying3 rfl ?_; simp only [Act.put, List.setIfInBounds_toArray, List.set_cons_zero, List.set_cons_succ]; go_big_quiet_on)
                | (go_big_quiet_op; first
                  | go_big_quiet_on
                  | (refine ⟨_, fun _ _ => rfl, ?_⟩; go_big_quiet_on)
                  | go_big_quiet_call ((intro hw; first
                    | (go_at_call 70; refine (rframes_any _ b g n c m (RM.out _ hw)).mono ?_; rintro e w7 ⟨rfl, rfl⟩; exact ⟨rfl, hw⟩))))))
            refine wpQuiet_nil ?_
            intro w7 hw7
            have z0 := R0.out _ hw7
            have z1 := R1.out _ hw7
            have z2 := R2.out _ hw7
            have z3 := R3.out _ hw7
            have z4 := R4.out _ hw7
            obtain ⟨r0, r1, r2, r3, r4⟩ := RZ.out _ hw7
            have g0 := RF.out _ hw7 0
            have g1 := RF.out _ hw7 1
            have g2 := RF.out _ hw7 2
            have g3 := RF.out _ hw7 3
            have g4 := RF.out _ hw7 4
            have HB7 := RB.out _ hw7
            have hz7 : w.heap.size < w7.heap.size := Nat.lt_of_lt_of_le hzV hw7.1.size
            clear R0 R1 R2 R3 R4 RM RB RZ RF hw7
            go_wp2
            exact bodyPost_ret (v := .tuple #[entV true true rr xx f, .int .i64 0]) (by simp [results, Try.results52, go_sem, r0, r1, r2, r3, r4, hne]) rfl ⟨HRES.out, by repeat (first | with_reducible exact HB7 | with_reducible refine Below.drew ?_ | with_reducible refine Below.setCell ?_ (by first | with_reducible exact Nat.le_refl _ | (simp; done) | (simp; omega)) _)⟩
        · have hfn' : (n : Int) ≤ f := by omega
          cases l
          all_goals
            clear hrr hxx
            have hres : Ending.returned (.tuple #[entV false false false false 0, .int .i64 5]) = .returned (.tuple #[walkV n m r p, .int .i64 (walkC n m r p)]) := by
              have e : walkC n m r p = 5 := by rw [HWC.out]; unfold leafC entC; simp [ho, ← hv, ← hl, hfn]
              have e2 : walkV n m r p = entV false false false false 0 := by unfold walkV; rw [if_neg (by rw [e]; decide)]
              rw [e, e2]
            have HRES := Lib.hid hres
            clear hres ho hv hl hfn
            go_wp2
            refine wp_region_keptQ V.heap.size V (by kernel_rfl) (by kernel_rfl) (KeptQ.refl (Nat.le_refl _)) ?_
            repeat (first
              | go_big_quiet_skip
              | (go_big_quiet_want; first
                | (refine quietQ_load_cell 4 _ rfl ⟨w2.heap.size, 0, none⟩ rfl _ R0.out _ Try.underlying4 rfl ?_; simp only [Act.put, List.setIfInBounds_toArray, List.set_cons_zero, List.set_cons_succ]; go_big_quiet_on)
                | (refine quietQ_load_cell 4 _ rfl ⟨w2.heap.size, 1, none⟩ rfl _ R1.out _ Try.underlying4 rfl ?_; simp only [Act.put, List.setIfInBounds_toArray, List.set_cons_zero, List.set_cons_succ]; go_big_quiet_on)
                | (refine quietQ_load_cell 3 _ rfl ⟨w2.heap.size, 4, none⟩ rfl _ R4.out _ Try.underlying3 rfl ?_; simp only [Act.put, List.setIfInBounds_toArray, List.set_cons_zero, List.set_cons_succ]; go_big_quiet_on)
                | (go_big_quiet_op; first
                  | go_big_quiet_on
                  | (refine ⟨_, fun _ _ => rfl, ?_⟩; go_big_quiet_on)
                  | go_big_quiet_call ((intro hw; first
                    | (go_at_call 70; refine (rframes_any _ b g n c m (RM.out _ hw)).mono ?_; rintro e w7 ⟨rfl, rfl⟩; exact ⟨rfl, hw⟩))))))
            refine wpQuiet_nil ?_
            intro w7 hw7
            have z0 := R0.out _ hw7
            have z1 := R1.out _ hw7
            have z2 := R2.out _ hw7
            have z3 := R3.out _ hw7
            have z4 := R4.out _ hw7
            obtain ⟨r0, r1, r2, r3, r4⟩ := RZ.out _ hw7
            have g0 := RF.out _ hw7 0
            have g1 := RF.out _ hw7 1
            have g2 := RF.out _ hw7 2
            have g3 := RF.out _ hw7 3
            have g4 := RF.out _ hw7 4
            have HB7 := RB.out _ hw7
            have hz7 : w.heap.size < w7.heap.size := Nat.lt_of_lt_of_le hzV hw7.1.size
            clear R0 R1 R2 R3 R4 RM RB RZ RF hw7
            go_wp2
            exact bodyPost_ret (v := .tuple #[entV false false false false 0, .int .i64 5]) (by simp [results, Try.results52, go_sem, r0, r1, r2, r3, r4, hne]) rfl ⟨HRES.out, by repeat (first | with_reducible exact HB7 | with_reducible refine Below.drew ?_ | with_reducible refine Below.setCell ?_ (by first | with_reducible exact Nat.le_refl _ | (simp; done) | (simp; omega)) _)⟩
    · clear HVAL
      have hres : Ending.returned (.tuple #[entV false false false false 0, .int .i64 5]) = .returned (.tuple #[walkV n m r p, .int .i64 (walkC n m r p)]) := by
        have e : walkC n m r p = 5 := by rw [HWC.out]; unfold leafC entC; simp [ho]
        have e2 : walkV n m r p = entV false false false false 0 := by unfold walkV; rw [if_neg (by rw [e]; decide)]
        rw [e, e2]
      have HRES := Lib.hid hres
      clear hres ho
      go_wp2
      refine wp_region_keptQ V.heap.size V (by kernel_rfl) (by kernel_rfl) (KeptQ.refl (Nat.le_refl _)) ?_
      repeat (first
        | go_big_quiet_skip
        | (go_big_quiet_want; first
          | (refine quietQ_load_cell 4 _ rfl ⟨w2.heap.size, 0, none⟩ rfl _ R0.out _ Try.underlying4 rfl ?_; simp only [Act.put, List.setIfInBounds_toArray, List.set_cons_zero, List.set_cons_succ]; go_big_quiet_on)
          | (refine quietQ_load_cell 4 _ rfl ⟨w2.heap.size, 1, none⟩ rfl _ R1.out _ Try.underlying4 rfl ?_; simp only [Act.put, List.setIfInBounds_toArray, List.set_cons_zero, List.set_cons_succ]; go_big_quiet_on)
          | (refine quietQ_load_cell 3 _ rfl ⟨w2.heap.size, 4, none⟩ rfl _ R4.out _ Try.underlying3 rfl ?_; simp only [Act.put, List.setIfInBounds_toArray, List.set_cons_zero, List.set_cons_succ]; go_big_quiet_on)
          | (go_big_quiet_op; first
            | go_big_quiet_on
            | (refine ⟨_, fun _ _ => rfl, ?_⟩; go_big_quiet_on)
            | go_big_quiet_call ((intro hw; first
              | (go_at_call 70; refine (rframes_any _ b g n c m (RM.out _ hw)).mono ?_; rintro e w7 ⟨rfl, rfl⟩; exact ⟨rfl, hw⟩))))))
      refine wpQuiet_nil ?_
      intro w7 hw7
      have z0 := R0.out _ hw7
      have z1 := R1.out _ hw7
      have z2 := R2.out _ hw7
      have z3 := R3.out _ hw7
      have z4 := R4.out _ hw7
      obtain ⟨r0, r1, r2, r3, r4⟩ := RZ.out _ hw7
      have g0 := RF.out _ hw7 0
      have g1 := RF.out _ hw7 1
      have g2 := RF.out _ hw7 2
      have g3 := RF.out _ hw7 3
      have g4 := RF.out _ hw7 4
      have HB7 := RB.out _ hw7
      have hz7 : w.heap.size < w7.heap.size := Nat.lt_of_lt_of_le hzV hw7.1.size
      clear R0 R1 R2 R3 R4 RM RB RZ RF hw7
      go_wp2
      exact bodyPost_ret (v := .tuple #[entV false false false false 0, .int .i64 5]) (by simp [results, Try.results52, go_sem, r0, r1, r2, r3, r4, hne]) rfl ⟨HRES.out, by repeat (first | with_reducible exact HB7 | with_reducible refine Below.drew ?_ | with_reducible refine Below.setCell ?_ (by first | with_reducible exact Nat.le_refl _ | (simp; done) | (simp; omega)) _)⟩
  · have hz : (c0 == 0) = false := beq_eq_false_iff_ne.2 h0
    have hres : Ending.returned (.tuple #[entV false false false false 0, .int .i64 c0]) = .returned (.tuple #[walkV n m r p, .int .i64 (walkC n m r p)]) := by
      have e : walkC n m r p = c0 := by unfold walkC; rw [hac]; simp only; rw [if_neg h0]
      have e2 : walkV n m r p = entV false false false false 0 := by unfold walkV; rw [if_neg (by rw [e]; exact h0)]
      rw [e, e2]
    have HRES := Lib.hid hres
    clear hres h0 hac hM hhd hlb hlg
    go_enter Try.func52, Try.ntmps52
    go_wp2_with (first
      | (go_at_call 68; refine (rat_gen _ b g n c m r p 3 (HM.out.call (bal (Below.refl _ _) _))).mono ?_; rw [HAC.out]; rintro e w1 ⟨rfl, hb1⟩; obtain ⟨hc1, hf1⟩ := bcell hb1; have hz1 : w.heap.size < w1.heap.size := (by have := hb1.size; simp at this; omega)))
    have r0 : w1.cell? ⟨w.heap.size, 0, none⟩ = some (.bool false) := (hc1 _ _ (by simp)).trans (by rw [cellE]; rfl)
    have r1 : w1.cell? ⟨w.heap.size, 1, none⟩ = some (.bool false) := (hc1 _ _ (by simp)).trans (by rw [cellE]; rfl)
    have r2 : w1.cell? ⟨w.heap.size, 2, none⟩ = some (.bool false) := (hc1 _ _ (by simp)).trans (by rw [cellE]; rfl)
    have r3 : w1.cell? ⟨w.heap.size, 3, none⟩ = some (.bool false) := (hc1 _ _ (by simp)).trans (by rw [cellE]; rfl)
    have r4 : w1.cell? ⟨w.heap.size, 4, none⟩ = some (.int .i64 0) := (hc1 _ _ (by simp)).trans (by rw [cellE]; rfl)
    exact bodyPost_ret (v := .tuple #[entV false false false false 0, .int .i64 c0]) (by simp [results, Try.results52, go_sem, r0, r1, r2, r3, r4, hz1, Nat.ne_of_lt hz1]) rfl ⟨HRES.out, by repeat (first | with_reducible exact Below.refl _ _ | with_reducible refine Below.drew ?_ | with_reducible refine Below.setCell ?_ (by first | with_reducible exact Nat.le_refl _ | (simp; done) | (simp; omega)) _ | with_reducible refine bal ?_ _ | with_reducible refine bgo ?_ (by assumption))⟩
end
/- chapter 7's own answer: its cores; Has, Set. -/
section
set_option linter.unusedVariables false
set_option linter.unusedSimpArgs false
open Go.ChangeShapes Go.WideShapes Go.ChangeAt Go.RowKit Go.Shelf
/-- The own cores: the header in block b, the rows in block g, the caches in blocks T i. -/
structure RCor (w : World) (b g n c : Nat) (R Q : Nat → Int) (T : Nat → Nat) (S : Nat → TS) : Prop where
  hd : w.cell? ⟨b, 0, none⟩ = some (.slice (some ⟨g, 0, none⟩) n c)
  row : ∀ i, i < n → w.cell? ⟨g, i * 3, none⟩ = some (.int .i64 (R i)) ∧ w.cell? ⟨g, i * 3 + 1, none⟩ = some (.int .i64 (Q i)) ∧ w.cell? ⟨g, i * 3 + 2, none⟩ = some (.pointer (some ⟨T i, 0, none⟩))
  free : ∀ j, w.frozen? ⟨g, j, none⟩ = false
  tlb : ∀ i, i < n → TRef w (T i) (S i)
  dist : ∀ i j, i < n → j < n → i ≠ j → T i ≠ T j
  off : ∀ i, i < n → T i ≠ b ∧ T i ≠ g
  ne : b ≠ g
  lb : b < w.heap.size
  lg : g < w.heap.size
  n1 : 1 ≤ n
  n3 : n ≤ 3
  cap : n ≤ c
theorem RCor.of_blocks {w w' : World} {b g n c : Nat} {R Q : Nat → Int} {T : Nat → Nat} {S : Nat → TS} (h : RCor w b g n c R Q T S) (hs : w.heap.size ≤ w'.heap.size) (e : w'.heap[b]? = w.heap[b]?) (e2 : w'.heap[g]? = w.heap[g]?) (e3 : ∀ i, i < n → w'.heap[T i]? = w.heap[T i]?) : RCor w' b g n c R Q T S :=
  ⟨(cell_of_block e).trans h.hd, fun i hi => ⟨(cell_of_block e2).trans (h.row i hi).1, (cell_of_block e2).trans (h.row i hi).2.1, (cell_of_block e2).trans (h.row i hi).2.2⟩, fun j => (frozen_of_block e2).trans (h.free j), fun i hi => (h.tlb i hi).of_block hs (e3 i hi), h.dist, h.off, h.ne, Nat.lt_of_lt_of_le h.lb hs, Nat.lt_of_lt_of_le h.lg hs, h.n1, h.n3, h.cap⟩
theorem RCor.call {w w' : World} {b g n c : Nat} {R Q : Nat → Int} {T : Nat → Nat} {S : Nat → TS} (h : RCor w b g n c R Q T S) (k : Below w.heap.size w w') : RCor w' b g n c R Q T S :=
  h.of_blocks k.size (k.block b h.lb) (k.block g h.lg) fun i hi => k.block _ (h.tlb i hi).lt
/-- One cache is turned. -/
theorem RCor.put {w w' : World} {b g n c k : Nat} {R Q : Nat → Int} {T : Nat → Nat} {S : Nat → TS} (h : RCor w b g n c R Q T S) (hk : k < n) {s : TS} (ht : TRef w' (T k) s) (ho : TlbOnly (T k) w w') : RCor w' b g n c R Q T (setT S k s) := by
  have hoff := h.off k hk
  have e := ho.block b h.lb (Ne.symm hoff.1)
  have e2 := ho.block g h.lg (Ne.symm hoff.2)
  refine ⟨(cell_of_block e).trans h.hd, fun i hi => ⟨(cell_of_block e2).trans (h.row i hi).1, (cell_of_block e2).trans (h.row i hi).2.1, (cell_of_block e2).trans (h.row i hi).2.2⟩, fun j => (frozen_of_block e2).trans (h.free j), fun i hi => ?_, h.dist, h.off, h.ne, Nat.lt_of_lt_of_le h.lb ho.size, Nat.lt_of_lt_of_le h.lg ho.size, h.n1, h.n3, h.cap⟩
  unfold setT
  by_cases e : i = k
  · subst e; rw [if_pos rfl]; exact ht
  · rw [if_neg e]; exact (h.tlb i hi).of_block ho.size (ho.block _ (h.tlb i hi).lt (h.dist i k hi hk e))
theorem RCor.setRegs {w : World} {b g n c k : Nat} {R Q : Nat → Int} {T : Nat → Nat} {S : Nat → TS} (h : RCor w b g n c R Q T S) (hk : k < n) {r s : Int} :
    RCor ((w.setCell ⟨g, k * 3, none⟩ (.int .i64 r)).setCell ⟨g, k * 3 + 1, none⟩ (.int .i64 s)) b g n c (setR R k r) (setR Q k s) T S := by
  refine ⟨?_, fun i hi => ?_, fun j => ?_, fun i hi => ?_, h.dist, h.off, h.ne, by simpa using h.lb, by simpa using h.lg, h.n1, h.n3, h.cap⟩
  · rw [World.cell?_setCell_other, World.cell?_setCell_other, h.hd]
    all_goals (intro e; simp only [Addr.mk.injEq] at e; exact h.ne e.1.symm)
  · obtain ⟨a0, a1, a2⟩ := h.row i hi
    unfold setR
    by_cases e : i = k
    · subst e
      simp only [if_true]
      refine ⟨?_, ?_, ?_⟩ <;> simp [go_sem, a0, a1, a2]
    · simp only [if_neg e]
      refine ⟨?_, ?_, ?_⟩
      all_goals
        rw [World.cell?_setCell_other, World.cell?_setCell_other]
        · assumption
        all_goals (intro e2; simp only [Addr.mk.injEq, true_and, and_true] at e2; omega)
  · simp [go_sem, h.free j]
  · have hg := (h.off i hi).2
    exact (h.tlb i hi).of_block (by simp) (by rw [Go.heap_setCell_other _ _ _ _ hg, Go.heap_setCell_other _ _ _ _ hg])
def hasC (n : Nat) (k : Int) : Bool := decide (0 ≤ k ∧ k < n)
theorem rhas_any (w : World) (b g n c : Nat) (k : Int) (R Q : Nat → Int) (T : Nat → Nat) (S : Nat → TS) (h : RCor w b g n c R Q T S) :
    Calls Try.prog 36 #[.pointer (some ⟨b, 0, none⟩), .int .i64 k] w fun e w' => e = .returned (.bool (hasC n k)) ∧ w = w' := by
  have hd := h.hd
  have n3 := h.n3
  clear h
  unfold hasC
  by_cases h0 : 0 ≤ k
  · by_cases h1 : k < n
    · rw [decide_eq_true ⟨h0, h1⟩]
      go_enter Try.func36, Try.ntmps36
      go_wp2
      go_ret
      exact ⟨rfl, rfl⟩
    · rw [decide_eq_false (fun q => h1 q.2)]
      go_enter Try.func36, Try.ntmps36
      go_wp2
      go_ret
      exact ⟨rfl, rfl⟩
  · rw [decide_eq_false (fun q => h0 q.1)]
    go_enter Try.func36, Try.ntmps36
    go_wp2
    go_ret
    exact ⟨rfl, rfl⟩
/-- What Set tells of a core and its registers. -/
def setC (n : Nat) (k r s : Int) : Int := if hasC n k = true then (if (r = -1 ∧ s = 0) ∨ (0 ≤ r ∧ r < 64 ∧ 1 ≤ s) then 0 else 2) else 3
theorem rset_no (w : World) (b g n c : Nat) (k r s : Int) (R Q : Nat → Int) (T : Nat → Nat) (S : Nat → TS) (h : RCor w b g n c R Q T S) (h0 : setC n k r s ≠ 0) :
    Calls Try.prog 33 #[.pointer (some ⟨b, 0, none⟩), .int .i64 k, .int .i64 r, .int .i64 s] w fun e w' => e = .returned (.int .i64 (setC n k r s)) ∧ w = w' := by
  have H := Lib.hid h
  clear h
  unfold setC at *
  by_cases h1 : hasC n k = true
  · rw [if_pos h1] at h0 ⊢
    by_cases h2 : (r = -1 ∧ s = 0) ∨ (0 ≤ r ∧ r < 64 ∧ 1 ≤ s)
    · rw [if_pos h2] at h0; exact absurd rfl h0
    · rw [if_neg h2]
      have H1 := Lib.hid h1
      have e1 : (r == -1 && s == 0) = false := by
        rw [Bool.and_eq_false_iff]
        by_cases q : r = -1
        · exact .inr (beq_eq_false_iff_ne.2 (fun e => h2 (.inl ⟨q, e⟩)))
        · exact .inl (beq_eq_false_iff_ne.2 q)
      have h3 : ¬ (0 ≤ r ∧ r < 64 ∧ 1 ≤ s) := fun q => h2 (.inr q)
      clear h0 h1 e1
      by_cases q1 : r = -1
      · subst q1
        have q2 : ¬ s = 0 := fun e => h2 (.inl ⟨rfl, e⟩)
        have q3 : (s == 0) = false := beq_eq_false_iff_ne.2 q2
        clear h2 h3
        go_enter Try.func33, Try.ntmps33
        go_wp2_with (go_at_call 36; refine (rhas_any _ b g n c k R Q T S H.out).mono ?_; rw [H1.out]; rintro e w1 ⟨rfl, rfl⟩)
        go_ret
        exact ⟨rfl, rfl⟩
      · have q2 : (r == -1) = false := beq_eq_false_iff_ne.2 q1
        by_cases q3 : 0 ≤ r
        · by_cases q4 : r < 64
          · have q5 : ¬ 1 ≤ s := fun e => h3 ⟨q3, q4, e⟩
            have q6 : decide (1 ≤ s) = false := decide_eq_false q5
            clear h2 h3 q1
            go_enter Try.func33, Try.ntmps33
            go_wp2_with (go_at_call 36; refine (rhas_any _ b g n c k R Q T S H.out).mono ?_; rw [H1.out]; rintro e w1 ⟨rfl, rfl⟩)
            go_ret
            exact ⟨rfl, rfl⟩
          · clear h2 h3 q1
            go_enter Try.func33, Try.ntmps33
            go_wp2_with (go_at_call 36; refine (rhas_any _ b g n c k R Q T S H.out).mono ?_; rw [H1.out]; rintro e w1 ⟨rfl, rfl⟩)
            go_ret
            exact ⟨rfl, rfl⟩
        · clear h2 h3 q1
          go_enter Try.func33, Try.ntmps33
          go_wp2_with (go_at_call 36; refine (rhas_any _ b g n c k R Q T S H.out).mono ?_; rw [H1.out]; rintro e w1 ⟨rfl, rfl⟩)
          go_ret
          exact ⟨rfl, rfl⟩
  · rw [if_neg h1]
    have h1 : hasC n k = false := by simpa using h1
    have H1 := Lib.hid h1
    clear h1 h0
    go_enter Try.func33, Try.ntmps33
    go_wp2_with (go_at_call 36; refine (rhas_any _ b g n c k R Q T S H.out).mono ?_; rw [H1.out]; rintro e w1 ⟨rfl, rfl⟩)
    go_ret
    exact ⟨rfl, rfl⟩
theorem has_nat {n : Nat} {k : Int} (h : hasC n k = true) : ∃ j : Nat, j < n ∧ k = j := by
  unfold hasC at h
  have := of_decide_eq_true h
  exact ⟨k.toNat, by omega, by omega⟩
theorem has_of {n j : Nat} (h : j < n) : hasC n j = true := decide_eq_true ⟨by omega, by omega⟩
theorem set_ok {n : Nat} {k r s : Int} (h : setC n k r s = 0) : ∃ j : Nat, j < n ∧ k = j ∧ ((r = -1 ∧ s = 0) ∨ (0 ≤ r ∧ r < 64 ∧ 1 ≤ s)) := by
  unfold setC at h
  split at h
  · rename_i h1
    split at h
    · rename_i h2
      obtain ⟨j, hj, e⟩ := has_nat h1
      exact ⟨j, hj, e, h2⟩
    · simp at h
  · simp at h
theorem rset_yes (w : World) (b g n c k : Nat) (r s : Int) (R Q : Nat → Int) (T : Nat → Nat) (S : Nat → TS) (h : RCor w b g n c R Q T S) (hk : k < n) (hr : (r = -1 ∧ s = 0) ∨ (0 ≤ r ∧ r < 64 ∧ 1 ≤ s)) :
    Calls Try.prog 33 #[.pointer (some ⟨b, 0, none⟩), .int .i64 k, .int .i64 r, .int .i64 s] w fun e w' => e = .returned (.int .i64 0) ∧ RCor w' b g n c (setR R k r) (setR Q k s) T S ∧ BlkOnly g w w' := by
  have H := Lib.hid h
  have H1 := Lib.hid (has_of hk)
  obtain ⟨c0, c1, -⟩ := h.row k hk
  have hd := h.hd
  have hf := h.free
  have n3 := h.n3
  have hne := h.ne
  have hne2 := Ne.symm hne
  have hk1 : (k : Int) < n := by omega
  clear h
  rcases hr with ⟨rfl, rfl⟩ | ⟨r0, r1, s1⟩
  · go_enter Try.func33, Try.ntmps33
    go_wp2_with (go_at_call 36; refine (rhas_any _ b g n c k R Q T S H.out).mono ?_; rw [H1.out]; rintro e w1 ⟨rfl, rfl⟩)
    go_ret
    exact ⟨rfl, H.out.setRegs hk, ((BlkOnly.refl g w).set _ _).set _ _⟩
  · have e1 : (r == -1) = false := beq_eq_false_iff_ne.2 (by omega)
    go_enter Try.func33, Try.ntmps33
    go_wp2_with (go_at_call 36; refine (rhas_any _ b g n c k R Q T S H.out).mono ?_; rw [H1.out]; rintro e w1 ⟨rfl, rfl⟩)
    go_ret
    exact ⟨rfl, H.out.setRegs hk, ((BlkOnly.refl g w).set _ _).set _ _⟩
end
/- chapter 7's own answer: New. -/
section
set_option linter.unusedVariables false
set_option linter.unusedSimpArgs false
open Go.ChangeShapes Go.WideShapes Go.ChangeAt Go.RowKit Go.Shelf
theorem infoRC : (Try.prog.info? 89).map (fun i => (i.zero, i.size, i.bytes)) = some (some (.agg #[.int .i64 0, .int .i64 0, .pointer none]), 3, 24) := by kernel_rfl
def rowC (t : Nat) : List Value := [.int .i64 (-1), .int .i64 0, .pointer (some ⟨t, 0, none⟩)]
def rowsC (T : Nat → Nat) (k : Nat) : List Value := (List.range k).flatMap fun i => rowC (T i)
theorem rowsC_succ (T : Nat → Nat) (k : Nat) : rowsC T (k + 1) = rowsC T k ++ rowC (T k) := by
  unfold rowsC; rw [List.range_succ, List.flatMap_append]; simp
theorem rowsC_congr {T T' : Nat → Nat} {k : Nat} (h : ∀ i, i < k → T i = T' i) : rowsC T k = rowsC T' k := by
  unfold rowsC
  induction k with
  | zero => rfl
  | succ k ih => rw [List.range_succ, List.flatMap_append, List.flatMap_append, ih (fun i hi => h i (by omega))]; simp [h k (by omega)]
theorem rowsC_len (T : Nat → Nat) (k : Nat) : (rowsC T k).length = k * 3 := by
  induction k with
  | zero => rfl
  | succ k ih => rw [rowsC_succ, List.length_append, ih]; simp [rowC]; omega
theorem rowsC_at (T : Nat → Nat) : ∀ k i j, i < k → j < 3 → (rowsC T k)[i * 3 + j]? = (rowC (T i))[j]? := by
  intro k
  induction k with
  | zero => intro i j hi; omega
  | succ k ih =>
    intro i j hi hj
    rw [rowsC_succ]
    by_cases h : i < k
    · rw [List.getElem?_append_left (by rw [rowsC_len]; omega)]
      exact ih i j h hj
    · obtain rfl : i = k := by omega
      rw [List.getElem?_append_right (by rw [rowsC_len]; omega), rowsC_len, Nat.add_sub_cancel_left]
structure RPart (w wr : World) (k : Nat) (T : Nat → Nat) (v : Value) : Prop where
  cell : wr.cell? ⟨w.heap.size, 0, none⟩ = some v
  froz : wr.frozen? ⟨w.heap.size, 0, none⟩ = false
  row : wr.ownsRow (w.heap.size + 1) 89 3 v k (rowsC T k)
  tlb : ∀ i, i < k → TRef wr (T i) S0
  ty : ∀ i, i < k → ∃ cs, wr.heap[T i]? = some (.cells cs 87 (0, 0))
  dist : ∀ i j, i < k → j < k → i ≠ j → T i ≠ T j
  off : ∀ i, i < k → w.heap.size < T i
  bel : Below w.heap.size w wr
  lt : w.heap.size < wr.heap.size
theorem row_of_heap {w w' : World} {base : Nat} {e : TypeId} {s : Nat} {v : Value} {n : Nat} {xs : List Value} (h : w.ownsRow base e s v n xs) (k : ∀ g, v.ownBlock = some g → w'.heap[g]? = w.heap[g]?) : w'.ownsRow base e s v n xs := by
  refine ⟨h.1, ?_⟩
  rcases h.2 with h2 | ⟨g, cap, cur, rfl, q1, q2, q3⟩
  · exact .inl h2
  · exact .inr ⟨g, cap, cur, rfl, q1, (k g rfl).trans q2, q3⟩
theorem row_ty {w : World} {B g s n : Nat} {e : TypeId} {v : Value} {xs : List Value} (h : w.ownsRow B e s v n xs) (hg : v.ownBlock = some g) : ∃ cs, w.heap[g]? = some (.cells cs e (0, 0)) := by
  rcases h.2 with ⟨rfl, _⟩ | ⟨g', cap, cur, rfl, _, q, _⟩
  · cases hg
  · cases hg; exact ⟨cur, q⟩
theorem RPart.step {w wr w3 : World} {k : Nat} {T : Nat → Nat} {v v' : Value} {cs : Array Value} {o : Obj} (h : RPart w wr k T v) (hT : TRef (wr.alloc (.cells cs 87)) wr.heap.size S0)
    (hown : w3.ownsRow (w.heap.size + 1) 89 3 v' (k + 1) (rowsC T k ++ rowC wr.heap.size)) (hg : ((wr.alloc (.cells cs 87)).alloc o).grownBy w3 v.ownBlock) :
    RPart w (w3.setCell ⟨w.heap.size, 0, none⟩ v') (k + 1) (fun i => if i = k then wr.heap.size else T i) v' := by
  have hlt := h.lt
  have hs : wr.heap.size + 2 ≤ w3.heap.size := by have := hg.size; simpa using this
  have hrl := h.row.lt
  have hvt : ∀ i, i < k → v.ownBlock ≠ some (T i) := fun i hi e => by
    obtain ⟨c1, e1⟩ := row_ty h.row e
    obtain ⟨c2, e2⟩ := h.ty i hi
    rw [e1] at e2
    simp at e2
  have heq : ∀ j, j < wr.heap.size → v.ownBlock ≠ some j → j ≠ w.heap.size → (w3.setCell ⟨w.heap.size, 0, none⟩ v').heap[j]? = wr.heap[j]? := fun j hj h1 h2 => by
    rw [Go.heap_setCell_other _ _ _ _ h2, hg.block j (by simp; omega) (fun e => h1 e.symm)]
    rw [Below.heap_alloc _ _ _ (by simp; omega), Below.heap_alloc _ _ _ hj]
  have hnew : (w3.setCell ⟨w.heap.size, 0, none⟩ v').heap[wr.heap.size]? = (wr.alloc (.cells cs 87)).heap[wr.heap.size]? := by
    rw [Go.heap_setCell_other _ _ _ _ (by show wr.heap.size ≠ w.heap.size; omega), hg.block _ (by simp; omega) (fun e => by have := (hrl _ e.symm).2; omega)]
    rw [Below.heap_alloc _ _ _ (by simp)]
  have hvb : v.ownBlock ≠ some w.heap.size := fun e => by have := (hrl _ e).1; omega
  have hb3 : w3.heap[w.heap.size]? = wr.heap[w.heap.size]? := by
    rw [hg.block _ (by simp; omega) (fun e => hvb e.symm), Below.heap_alloc _ _ _ (by simp; omega), Below.heap_alloc _ _ _ hlt]
  refine ⟨?_, ?_, ?_, fun i hi => ?_, fun i hi => ?_, fun i j hi hj hij => ?_, fun i hi => ?_, ?_, by simp; omega⟩
  · exact World.cell?_setCell_same _ _ _ (u := v) ((World.cell?_of_block (a := ⟨w.heap.size, 0, none⟩) hb3).trans h.cell)
  · rw [World.frozen?_setCell]; exact (World.frozen?_of_block (a := ⟨w.heap.size, 0, none⟩) hb3).trans h.froz
  · have e : rowsC (fun i => if i = k then wr.heap.size else T i) (k + 1) = rowsC T k ++ rowC wr.heap.size := by
      rw [rowsC_succ, rowsC_congr (T := fun i => if i = k then wr.heap.size else T i) (T' := T) (fun i hi => if_neg (by omega))]
      simp
    rw [e]
    refine row_of_heap hown (fun g hg2 => Go.heap_setCell_other _ _ _ _ (by have := (hown.lt g hg2).1; show g ≠ w.heap.size; omega))
  · by_cases e : i = k
    · simp only [e, if_true]
      exact hT.of_block (by simp; omega) hnew
    · simp only [e, if_false]
      have hi2 : i < k := by omega
      exact (h.tlb i hi2).of_block (by simp; omega) (heq _ (h.tlb i hi2).lt (hvt i hi2) (by have := h.off i hi2; omega))
  · by_cases e : i = k
    · simp only [e, if_true]
      exact ⟨cs, hnew.trans (World.alloc_heap_new _ _)⟩
    · simp only [e, if_false]
      have hi2 : i < k := by omega
      obtain ⟨c, hc⟩ := h.ty i hi2
      exact ⟨c, (heq _ (h.tlb i hi2).lt (hvt i hi2) (by have := h.off i hi2; omega)).trans hc⟩
  · by_cases e : i = k
    · by_cases e2 : j = k
      · omega
      · simp only [e, e2, if_true, if_false]
        have := (h.tlb j (by omega)).lt
        omega
    · by_cases e2 : j = k
      · simp only [e, e2, if_true, if_false]
        have := (h.tlb i (by omega)).lt
        omega
      · simp only [e, e2, if_false]
        exact h.dist i j (by omega) (by omega) hij
  · by_cases e : i = k
    · simp only [e, if_true]; exact hlt
    · simp only [e, if_false]; exact h.off i (by omega)
  · have hb : Below w.heap.size wr w3 := ⟨hg.os, hg.tape, hg.output, by omega, fun j hj => by
      rw [hg.block j (by simp; omega) (fun e => by have := (hrl _ e.symm).1; omega), Below.heap_alloc _ _ _ (by simp; omega), Below.heap_alloc _ _ _ (by omega)]⟩
    exact h.bel.trans (hb.setCell (p := ⟨w.heap.size, 0, none⟩) (Nat.le_refl _) _)
theorem hold_hd {w wr w3 : World} {k : Nat} {T : Nat → Nat} {v : Value} {o o2 : Obj} (h : RPart w wr k T v) (hg : ((wr.alloc o).alloc o2).grownBy w3 v.ownBlock) : w3.cell? ⟨w.heap.size, 0, none⟩ = wr.cell? ⟨w.heap.size, 0, none⟩ ∧ w3.frozen? ⟨w.heap.size, 0, none⟩ = wr.frozen? ⟨w.heap.size, 0, none⟩ := by
  have hlt := h.lt
  have hrl := h.row.lt
  have hb3 : w3.heap[w.heap.size]? = wr.heap[w.heap.size]? := by
    rw [hg.block _ (by simp; omega) (fun e => by have := (hrl _ e.symm).1; omega), Below.heap_alloc _ _ _ (by simp; omega), Below.heap_alloc _ _ _ hlt]
  exact ⟨World.cell?_of_block (a := ⟨w.heap.size, 0, none⟩) hb3, World.frozen?_of_block (a := ⟨w.heap.size, 0, none⟩) hb3⟩
theorem RPart.done {w wr : World} {n : Nat} {T : Nat → Nat} {v : Value} (h : RPart w wr n T v) (h1 : 1 ≤ n) (h3 : n ≤ 3) : ∃ g c, v = .slice (some ⟨g, 0, none⟩) n c ∧ RCor wr w.heap.size g n c (fun _ => -1) (fun _ => 0) T (fun _ => S0) ∧ w.heap.size ≤ g := by
  have hcs := fun g hg => h.row.cells (g := g) hg
  have hrl := h.row.lt
  have hvt : ∀ i, i < n → v.ownBlock ≠ some (T i) := fun i hi e => by
    obtain ⟨c1, e1⟩ := row_ty h.row e
    obtain ⟨c2, e2⟩ := h.ty i hi
    rw [e1] at e2
    simp at e2
  rcases h.row.2 with ⟨_, h0⟩ | ⟨g, cap, cur, e, q1, q2, q3, q4, q5, q6⟩
  · omega
  · subst e
    have hg := hrl g rfl
    have hc : ∀ i j u, i < n → j < 3 → (rowC (T i))[j]? = some u → wr.cell? ⟨g, i * 3 + j, none⟩ = some u := fun i j u hi hj hu => by
      have := hcs g rfl (i * 3 + j) u ((rowsC_at T n i j hi hj).trans hu)
      rwa [Addr.add_mid, Nat.zero_add] at this
    refine ⟨g, cap, rfl, ⟨h.cell, fun i hi => ⟨hc i 0 _ hi (by decide) rfl, hc i 1 _ hi (by decide) rfl, hc i 2 _ hi (by decide) rfl⟩, fun j => Go.frozen_of_row _ _ _ _ _ q2, h.tlb, h.dist, fun i hi => ⟨by have := h.off i hi; omega, fun e => hvt i hi (by rw [e]; rfl)⟩, by omega, h.lt, hg.2, h1, h3, q3⟩, by omega⟩
theorem row_news (wr : World) (o : Obj) (t : Nat) (T : TypeId) : ∀ j u, (rowC t)[j]? = some u → ((wr.alloc o).alloc (.cells #[.int .i64 (-1), .int .i64 0, .pointer (some ⟨t, 0, none⟩)] T)).cell? ((⟨wr.heap.size + 1, 0, none⟩ : Addr).add j) = some u := by
  intro j u hj
  have h2 : ((wr.alloc o).alloc (.cells #[.int .i64 (-1), .int .i64 0, .pointer (some ⟨t, 0, none⟩)] T)).heap[wr.heap.size + 1]? = some (.cells #[.int .i64 (-1), .int .i64 0, .pointer (some ⟨t, 0, none⟩)] T (0, 0)) := by
    have := World.alloc_heap_new (wr.alloc o) (.cells #[.int .i64 (-1), .int .i64 0, .pointer (some ⟨t, 0, none⟩)] T)
    rwa [show (wr.alloc o).heap.size = wr.heap.size + 1 by simp] at this
  rw [Addr.add_mid, Nat.zero_add, cellQ h2]
  simpa [rowC] using hj
set_option maxRecDepth 100000 in
set_option maxHeartbeats 4000000 in
theorem rnew_cores (w : World) (n : Nat) (h1 : 1 ≤ n) (h3 : n ≤ 3) :
    Calls Try.prog 11 #[.int .i64 n] w fun e w' => ∃ g c T, e = .returned (.tuple #[.pointer (some ⟨w.heap.size, 0, none⟩), .int .i64 0]) ∧ RCor w' w.heap.size g n c (fun _ => -1) (fun _ => 0) T (fun _ => S0) ∧ w.heap.size ≤ g ∧ (∀ i, i < n → w.heap.size ≤ T i) ∧ Below w.heap.size w w' := by
  obtain ⟨i0, hi, hz0, hz1, hz2⟩ := info_parts infoRC
  have HI := Lib.hid hi
  clear hi
  have n1 : ¬ (n : Int) < 1 := by omega
  have n3 : ¬ (n : Int) > 3 := by omega
  have hz := @refAt_new
  have HZ := Lib.hid hz
  clear hz
  go_enter Try.func11, Try.ntmps11
  go_wp2
  go_loopw [5] (fun i wr => ∃ (k : Nat) (T : Nat → Nat) (v : Value), k ≤ n ∧ i = .int .i64 k ∧ Hid (RPart w wr k T v)) (fun i _ => n - (intOf i).toNat)
  case atStart => exact ⟨0, fun _ => 0, .slice none 0 0, Nat.zero_le _, rfl, Lib.hid ⟨by simp [go_sem], by unfold World.frozen?; rw [World.alloc_heap_new]; rfl, World.ownsRow_nil _ _ _ _, fun i hi => by omega, fun i hi => by omega, fun i j hi => by omega, fun i hi => by omega, bal (Below.refl _ _) _, by simp⟩⟩
  case round =>
    obtain ⟨k, T, v, hk, rfl, HP⟩ := hrel
    by_cases hlt : k < n
    · have hltI : (k : Int) < n := by omega
      have c0 := HP.out.cell
      have f0 := HP.out.froz
      have hsz := HP.out.lt
      have hrow := HP.out.row
      obtain ⟨va, vn, vc, rfl⟩ : ∃ a k c, v = .slice a k c := by
        rcases hrow.2 with ⟨rfl, _⟩ | ⟨g, cap, cur, rfl, _⟩
        · exact ⟨_, _, _, rfl⟩
        · exact ⟨_, _, _, rfl⟩
      have HROW := Lib.hid hrow
      clear hrow
      go_wp2_with (at_builtin; refine wpList_append_own _ rfl _ _ 79 rfl (w.heap.size + 1) 89 i0 (.agg #[.int .i64 0, .int .i64 0, .pointer none]) 3 24 Try.underlying79 HI.out hz0 hz1 hz2 rfl (by decide) _ k _ rfl ((HROW.out.alloc _).alloc _) ⟨wr.heap.size + 1, 0, none⟩ 1 1 (rowC wr.heap.size) (by first | rfl | simp) rfl (row_news wr _ _ _) (by simp [rowC, Value.oneCell']) (by unfold maxLen; omega) (by omega) (by simp; omega) ?_; intro v' w3 hown hgrow _; have HST := Lib.hid (RPart.step HP.out (HZ.out wr) hown hgrow); have HG := Lib.hid hgrow; obtain ⟨da, dn, dc, rfl⟩ : ∃ a k c, v' = .slice a k c := (by rcases hown.2 with ⟨rfl, _⟩ | ⟨g, cap, cur, rfl, _⟩ <;> exact ⟨_, _, _, rfl⟩); have c3 : w3.cell? ⟨w.heap.size, 0, none⟩ = some (.slice va vn vc) := (hold_hd HP.out hgrow).1.trans c0; have f3 : w3.frozen? ⟨w.heap.size, 0, none⟩ = false := (hold_hd HP.out hgrow).2.trans f0; clear hown hgrow)
      go_roundw
      case rel => exact ⟨k + 1, _, _, by omega, by go_num, HST⟩
      case measure => simp [intOf]; omega
    · obtain rfl : k = n := by omega
      obtain ⟨g, c, e, hR, hg⟩ := HP.out.done h1 h3
      have HR := Lib.hid hR
      clear hR
      go_wp2
      go_ret2
      exact ⟨g, c, T, rfl, HR.out, hg, fun i hi => Nat.le_of_lt (HP.out.off i hi), HP.out.bel⟩
end
/- chapter 7's own answer: Translate, Prefetch. -/
section
set_option linter.unusedVariables false
set_option linter.unusedSimpArgs false
open Go.ChangeShapes Go.WideShapes Go.ChangeAt Go.RowKit Go.Shelf
theorem RCor.far {w : World} {b g n c d j : Nat} {R Q : Nat → Int} {T : Nat → Nat} {S : Nat → TS} (h : RCor w b g n c R Q T S) (h1 : b ≠ d) (h2 : g ≠ d) (h3 : ∀ i, i < n → T i ≠ d) (v : Value) : RCor (w.setCell ⟨d, j, none⟩ v) b g n c R Q T S :=
  h.of_blocks (by simp) (Go.heap_setCell_other _ _ _ _ h1) (Go.heap_setCell_other _ _ _ _ h2) fun i hi => Go.heap_setCell_other _ _ _ _ (h3 i hi)
theorem TlbOnly.out {b D j : Nat} {w d : World} (h : TlbOnly b w d) (hD : w.heap.size ≤ D) (v : Value) : TlbOnly b w (d.setCell ⟨D, j, none⟩ v) :=
  ⟨h.os, h.tape, h.output, by simpa using h.size, fun k hk hn => (Go.heap_setCell_other _ _ _ _ (by show k ≠ D; omega)).trans (h.block k hk hn)⟩
/-- Behind a turn of a cache and five writes to a block that is newer. -/
theorem cor_end {w w7 w8 : World} {b g n c k Z : Nat} {R Q : Nat → Int} {T : Nat → Nat} {S : Nat → TS} {s : TS} (h : RCor w b g n c R Q T S) (hk : k < n) (hb : Below w.heap.size w w7) (ht : TRef w8 (T k) s) (ho : TlbOnly (T k) w7 w8) (hZ : w.heap.size ≤ Z) (v0 v1 v2 v3 v4 : Value) :
    RCor (((((w8.setCell ⟨Z, 0, none⟩ v0).setCell ⟨Z, 1, none⟩ v1).setCell ⟨Z, 2, none⟩ v2).setCell ⟨Z, 3, none⟩ v3).setCell ⟨Z, 4, none⟩ v4) b g n c R Q T (setT S k s) ∧
    TlbOnly (T k) w (((((w8.setCell ⟨Z, 0, none⟩ v0).setCell ⟨Z, 1, none⟩ v1).setCell ⟨Z, 2, none⟩ v2).setCell ⟨Z, 3, none⟩ v3).setCell ⟨Z, 4, none⟩ v4) := by
  have h8 := (h.call hb).put hk ht ho
  have n1 : b ≠ Z := by have := h.lb; omega
  have n2 : g ≠ Z := by have := h.lg; omega
  have n3 : ∀ i, i < n → T i ≠ Z := fun i hi => by have := (h.tlb i hi).lt; omega
  exact ⟨((((h8.far n1 n2 n3 v0).far n1 n2 n3 v1).far n1 n2 n3 v2).far n1 n2 n3 v3).far n1 n2 n3 v4, ((((((TlbOnly.of_below hb).trans ho).out hZ v0).out hZ v1).out hZ v2).out hZ v3).out hZ v4⟩
theorem z_new (w : World) : TrAt (w.alloc (.cells #[.int .i64 0, .int .i64 0, .int .i64 0, .bool false, .bool false] 52)) w.heap.size zT := tr_new w zT
theorem row3 (w : World) (r q : Int) (t : Nat) (T : TypeId) : (w.alloc (.cells #[.int .i64 r, .int .i64 q, .pointer (some ⟨t, 0, none⟩)] T)).cell? ⟨w.heap.size, 0, none⟩ = some (.int .i64 r) ∧ (w.alloc (.cells #[.int .i64 r, .int .i64 q, .pointer (some ⟨t, 0, none⟩)] T)).cell? ⟨w.heap.size, 1, none⟩ = some (.int .i64 q) ∧ (w.alloc (.cells #[.int .i64 r, .int .i64 q, .pointer (some ⟨t, 0, none⟩)] T)).cell? ⟨w.heap.size, 2, none⟩ = some (.pointer (some ⟨t, 0, none⟩)) := by
  refine ⟨?_, ?_, ?_⟩ <;> simp [go_sem]
theorem walkV_leaf {n : Nat} {m : Nat → Int} {r p : Int} (h : walkC n m r p = 0) : walkV n m r p = entV true true ((leafW m (atF n m r p 3).1).testBit 2) ((leafW m (atF n m r p 3).1).testBit 3) ((leafW m (atF n m r p 3).1 / 256 % 64 : Nat) : Int) := by
  unfold walkV; rw [if_pos h]; unfold entW; rw [(walkC_leaf h).1]
theorem walkV_no {n : Nat} {m : Nat → Int} {r p : Int} (h : walkC n m r p ≠ 0) : walkV n m r p = entV false false false false 0 := by
  unfold walkV; rw [if_neg h]
set_option maxRecDepth 100000 in
set_option maxHeartbeats 4000000 in
theorem rtrans_ok (w : World) (b g n c k : Nat) (R Q : Nat → Int) (T : Nat → Nat) (S : Nat → TS) (mb mg mn mc : Nat) (m : Nat → Int) (p : Int) (h : RCor w b g n c R Q T S) (hS : Good (S k)) (hk : k < n) (hM : RefAt w mb mg mn mc m) (hr : R k ≠ -1) (hq : RegOk (R k) (Q k)) (p0 : 0 ≤ p) (p1 : p < 512) :
    Calls Try.prog 34 #[.pointer (some ⟨b, 0, none⟩), .int .i64 k, .pointer (some ⟨mb, 0, none⟩), .int .i64 p] w fun e w' => e = .returned (.tuple #[trX (transF mn m (R k) (Q k) p (S k)).1.1, .bool (transF mn m (R k) (Q k) p (S k)).1.2.1, .int .i64 (transF mn m (R k) (Q k) p (S k)).1.2.2]) ∧ RCor w' b g n c R Q T (setT S k (transF mn m (R k) (Q k) p (S k)).2) ∧ TlbOnly (T k) w w' := by
  have H := Lib.hid h
  have HM := Lib.hid hM
  have HS := Lib.hid hS
  have HB := Lib.hid (has_of hk)
  obtain ⟨c0, c1, c2⟩ := h.row k hk
  have hd := h.hd
  have hbl := h.lb
  have hg := h.lg
  have n3 := h.n3
  have hk1 : (k : Int) < n := by omega
  have hr1 : (R k == -1) = false := beq_eq_false_iff_ne.2 hr
  have p2 : ¬ p < 0 := by omega
  have p3 : ¬ p ≥ 512 := by omega
  have hTl := (h.tlb k hk).lt
  have HQ := Lib.hid (hq.pos hr)
  have HR := Lib.hid hr
  clear h hM hS hr hq
  obtain ⟨⟨x, hit⟩, hf⟩ : ∃ z, findS (S k) (Q k) p = z := ⟨_, rfl⟩
  have HF := Lib.hid hf
  clear hf
  generalize hrk : R k = rk at *
  generalize hqk : Q k = qk at *
  generalize htk : T k = tk at *
  have HRK := Lib.hid hrk
  have HQK := Lib.hid hqk
  have HTK := Lib.hid htk
  clear hrk hqk htk
  obtain ⟨⟨⟨tx, th, tc⟩, ts⟩, htr⟩ : ∃ z, transF mn m rk qk p (S k) = z := ⟨_, rfl⟩
  rw [htr]
  have HTR := Lib.hid htr
  clear htr
  go_enter Try.func34, Try.ntmps34
  go_upto_region 6 with (go_at_call 36; refine (rhas_any _ b g n c k R Q T S (H.out.call (bal (Below.refl _ _) _))).mono ?_; rw [HB.out]; rintro e w1 ⟨rfl, rfl⟩)
  have hZT : w.heap.size ≠ tk := by omega
  obtain ⟨w2, hw2⟩ : ∃ z, z = (w.alloc (.cells #[.int .i64 0, .int .i64 0, .int .i64 0, .bool false, .bool false] 52)).alloc (.cells #[.int .i64 rk, .int .i64 qk, .pointer (some ⟨tk, 0, none⟩)] 89) := ⟨_, rfl⟩
  rw [← hw2]
  have hb2 : Below w.heap.size w w2 := by rw [hw2]; exact bal (bal (Below.refl _ _) _) _
  have hx := row3 (w.alloc (.cells #[.int .i64 0, .int .i64 0, .int .i64 0, .bool false, .bool false] 52)) rk qk tk 89
  rw [← hw2, show (w.alloc (.cells #[.int .i64 0, .int .i64 0, .int .i64 0, .bool false, .bool false] 52)).heap.size = w.heap.size + 1 by simp] at hx
  obtain ⟨x0, x1, x2⟩ := hx
  have hz : TrAt w2 w.heap.size zT := by rw [hw2]; exact (z_new w).keep (by simp) (bal (Below.refl _ _) _)
  have hfz : ∀ j, w2.frozen? ⟨w.heap.size, j, none⟩ = false := fun j => by
    rw [hw2]; exact ((bal (Below.refl _ _) _).frozen (p := ⟨w.heap.size, j, none⟩) (by simp)).trans (frozE w _ _ j)
  have hs2 : w.heap.size + 1 < w2.heap.size := by rw [hw2]; simp
  have HB2 := Lib.hid hb2
  have HT2 : Hid (TRef w2 tk (S k)) := Lib.hid (by rw [← HTK.out]; exact (H.out.tlb k hk).call hb2)
  clear hw2 hb2 c0 c1 c2
  go_upto_region 7 with (go_at_call 51; refine (refFind_any _ tk (S k) qk p HT2.out HS.out).mono ?_; rw [HF.out]; rintro e w3 ⟨rfl, hb3⟩)
  obtain ⟨w4, hw4⟩ : ∃ z, z = w3.alloc (.cells #[.int .i64 x.s, .int .i64 x.p, .int .i64 x.f, .bool x.r, .bool x.w] 52) := ⟨_, rfl⟩
  rw [← hw4]
  have hb4 : Below w2.heap.size w2 w4 := by rw [hw4]; exact bal hb3 _
  obtain ⟨y0, y1, y2, y3, y4⟩ : TrAt w4 w3.heap.size x := by rw [hw4]; exact tr_new w3 x
  have fy : ∀ j, w4.frozen? ⟨w3.heap.size, j, none⟩ = false := fun j => by rw [hw4]; exact frozE w3 _ _ j
  have hq4 : w3.heap.size < w4.heap.size := by rw [hw4]; simp
  have hq3 : w2.heap.size ≤ w3.heap.size := hb3.size
  have hs1 : w.heap.size < w2.heap.size := by omega
  obtain ⟨z0, z1, z2, z3, z4⟩ := hz.keep hs1 hb4
  have hz4 : ∀ j, w4.frozen? ⟨w.heap.size, j, none⟩ = false := fun j => (hb4.frozen (p := ⟨w.heap.size, j, none⟩) hs1).trans (hfz j)
  have u0 := (hb4.cell (p := ⟨w.heap.size + 1, 0, none⟩) hs2).trans x0
  have u1 := (hb4.cell (p := ⟨w.heap.size + 1, 1, none⟩) hs2).trans x1
  have u2 := (hb4.cell (p := ⟨w.heap.size + 1, 2, none⟩) hs2).trans x2
  have HB4 := Lib.hid (HB2.out.trans (hb4.mono HB2.out.size))
  have HT4 := Lib.hid (HT2.out.call hb4)
  have HM4 := Lib.hid (HM.out.call HB4.out)
  generalize w3.heap.size = q at *
  have n1 : w.heap.size ≠ q := by omega
  have hZq : w.heap.size ≤ q := by omega
  have n2 : w.heap.size + 1 ≠ q := by omega
  have n3' : q ≠ tk := by omega
  have hZ4 : w.heap.size < w4.heap.size := by omega
  have hX4 : w.heap.size + 1 < w4.heap.size := by omega
  clear hb3 hw4 hb4 x0 x1 x2 hz hfz hs2 hq3 HT2 hs1
  have fz0 := hz4 0
  have fz1 := hz4 1
  have fz2 := hz4 2
  have fz3 := hz4 3
  have fz4 := hz4 4
  have fy0 := fy 0
  have fy1 := fy 1
  have fy2 := fy 2
  have fy3 := fy 3
  have fy4 := fy 4
  clear hz4 fy
  cases hit with
  | true =>
    have htr : transF mn m rk qk p (S k) = ((x, true, 0), S k) := by unfold transF; rw [HF.out]; rfl
    rw [HTR.out] at htr
    simp only [Prod.mk.injEq] at htr
    obtain ⟨⟨rfl, rfl, rfl⟩, rfl⟩ := htr
    go_wp2
    have hend := cor_end H.out hk HB4.out (by rw [HTK.out]; exact HT4.out) (TlbOnly.of_below (Below.refl _ _)) (Nat.le_refl _) (.int .i64 tx.s) (.int .i64 tx.p) (.int .i64 tx.f) (.bool tx.r) (.bool tx.w)
    rw [HTK.out] at hend
    exact bodyPost_ret (v := .tuple #[trX tx, .bool true, .int .i64 0]) (by simp [results, Try.results34, go_sem, z0, z1, z2, z3, z4]) rfl ⟨rfl, hend⟩
  | false =>
    by_cases hw : walkC mn m rk p = 0
    · have htr : transF mn m rk qk p (S k) = ((leafT mn m rk qk p, false, 0), fillS (S k) (leafT mn m rk qk p)) := by unfold transF; rw [HF.out, if_neg (by simp), if_pos hw]
      rw [HTR.out] at htr
      simp only [Prod.mk.injEq] at htr
      obtain ⟨⟨htx, rfl, rfl⟩, hts⟩ := htr
      have HWV := Lib.hid (walkV_leaf hw)
      have HW := Lib.hid hw
      obtain ⟨fr, hfr⟩ : ∃ z, ((leafW m (atF mn m rk p 3).1 / 256 % 64 : Nat) : Int) = z := ⟨_, rfl⟩
      obtain ⟨rd, hrd⟩ : ∃ z, (leafW m (atF mn m rk p 3).1).testBit 2 = z := ⟨_, rfl⟩
      obtain ⟨wt, hwt⟩ : ∃ z, (leafW m (atF mn m rk p 3).1).testBit 3 = z := ⟨_, rfl⟩
      have hlf : leafT mn m rk qk p = ⟨qk, p, fr, rd, wt⟩ := by unfold leafT; rw [hfr, hrd, hwt]
      rw [hfr, hrd, hwt] at HWV
      rw [hlf] at htx hts
      have hmy : mayX ⟨qk, p, fr, rd, wt⟩ = true := by rw [← hlf]; exact may_leaf HM.out.n64 hw HQ.out.2.2 p0 p1
      subst htx
      subst hts
      have HMY := Lib.hid hmy
      clear hmy
      clear hw hfr hrd hwt hlf
      go_upto_region 10 with (go_at_call 52; refine (rwalk_gen _ mb mg mn mc m rk p HM4.out).mono ?_; rw [HWV.out, HW.out]; rintro e w5 ⟨rfl, hb5⟩)
      obtain ⟨w6, hw6⟩ : ∃ z, z = w5.alloc (.cells #[.bool true, .bool true, .bool rd, .bool wt, .int .i64 fr] 56) := ⟨_, rfl⟩
      rw [← hw6]
      have hb6 : Below w4.heap.size w4 w6 := by rw [hw6]; exact bal hb5 _
      have e2 : w6.cell? ⟨w5.heap.size, 2, none⟩ = some (.bool rd) := by rw [hw6, cellE]; rfl
      have e3 : w6.cell? ⟨w5.heap.size, 3, none⟩ = some (.bool wt) := by rw [hw6, cellE]; rfl
      have e4 : w6.cell? ⟨w5.heap.size, 4, none⟩ = some (.int .i64 fr) := by rw [hw6, cellE]; rfl
      have he5 : w4.heap.size ≤ w5.heap.size := hb5.size
      have he6 : w5.heap.size < w6.heap.size := by rw [hw6]; simp
      have a0 := (hb6.cell (p := ⟨q, 0, none⟩) hq4).trans y0
      have a1 := (hb6.cell (p := ⟨q, 1, none⟩) hq4).trans y1
      have a2 := (hb6.cell (p := ⟨q, 2, none⟩) hq4).trans y2
      have a3 := (hb6.cell (p := ⟨q, 3, none⟩) hq4).trans y3
      have a4 := (hb6.cell (p := ⟨q, 4, none⟩) hq4).trans y4
      have b0 := (hb6.frozen (p := ⟨q, 0, none⟩) hq4).trans fy0
      have b1 := (hb6.frozen (p := ⟨q, 1, none⟩) hq4).trans fy1
      have b2 := (hb6.frozen (p := ⟨q, 2, none⟩) hq4).trans fy2
      have b3 := (hb6.frozen (p := ⟨q, 3, none⟩) hq4).trans fy3
      have b4 := (hb6.frozen (p := ⟨q, 4, none⟩) hq4).trans fy4
      have v1 := (hb6.cell (p := ⟨w.heap.size + 1, 1, none⟩) hX4).trans u1
      have v2 := (hb6.cell (p := ⟨w.heap.size + 1, 2, none⟩) hX4).trans u2
      have HZ6 := Lib.hid (show TrAt w6 w.heap.size zT from TrAt.keep ⟨z0, z1, z2, z3, z4⟩ hZ4 hb6)
      have HF6 : Hid (∀ j, j < 5 → w6.frozen? ⟨w.heap.size, j, none⟩ = false) := Lib.hid (fun j hj => (hb6.frozen (p := ⟨w.heap.size, j, none⟩) hZ4).trans (by obtain rfl | rfl | rfl | rfl | rfl : j = 0 ∨ j = 1 ∨ j = 2 ∨ j = 3 ∨ j = 4 := (by omega) <;> assumption))
      have HB6 := Lib.hid (HB4.out.trans (hb6.mono HB4.out.size))
      have HT6 := Lib.hid (HT4.out.call hb6)
      generalize w5.heap.size = eB at *
      have m1 : eB ≠ q := by omega
      have m2 : q ≠ eB := by omega
      have hq6 : q < w6.heap.size := by omega
      have hX6 : w.heap.size + 1 < w6.heap.size := by omega
      have hZ6 : w.heap.size < w6.heap.size := by omega
      have hZ0 := HB4.out.size
      clear hb5 hw6 hb6 y0 y1 y2 y3 y4 fy0 fy1 fy2 fy3 fy4 z0 z1 z2 z3 z4 fz0 fz1 fz2 fz3 fz4 u0 u1 u2 hq4 hX4 hZ4 HM4
      go_upto_region 13 with (fail)
      obtain ⟨w7, hw7⟩ : ∃ z, z = ((((w6.setCell ⟨q, 0, none⟩ (.int .i64 qk)).setCell ⟨q, 1, none⟩ (.int .i64 p)).setCell ⟨q, 2, none⟩ (.int .i64 fr)).setCell ⟨q, 3, none⟩ (.bool rd)).setCell ⟨q, 4, none⟩ (.bool wt) := ⟨_, rfl⟩
      rw [← hw7]
      have hk7 : ∀ j, j ≠ q → w7.heap[j]? = w6.heap[j]? := fun j hj => by
        rw [hw7]
        rw [Go.heap_setCell_other _ _ _ _ hj, Go.heap_setCell_other _ _ _ _ hj, Go.heap_setCell_other _ _ _ _ hj, Go.heap_setCell_other _ _ _ _ hj, Go.heap_setCell_other _ _ _ _ hj]
      have hs7 : w7.heap.size = w6.heap.size := by rw [hw7]; simp
      obtain ⟨t0, t1, t2, t3, t4⟩ : TrAt w7 q ⟨qk, p, fr, rd, wt⟩ := by rw [hw7]; exact tr_set a0 a1 a2 a3 a4 ⟨qk, p, fr, rd, wt⟩
      have HB7 : Hid (Below w.heap.size w w7) := Lib.hid (by rw [hw7]; exact below_set5 HB6.out (by omega) (.int .i64 qk) (.int .i64 p) (.int .i64 fr) (.bool rd) (.bool wt))
      have HT7 : Hid (TRef w7 tk (S k)) := Lib.hid (HT6.out.of_block (Nat.le_of_eq hs7.symm) (hk7 tk (Ne.symm n3')))
      have x2 := (cell_of_block (j := 2) (hk7 (w.heap.size + 1) n2)).trans v2
      obtain ⟨z0, z1, z2, z3, z4⟩ := HZ6.out
      have y0 := (cell_of_block (j := 0) (hk7 w.heap.size n1)).trans z0
      have y1 := (cell_of_block (j := 1) (hk7 w.heap.size n1)).trans z1
      have y2 := (cell_of_block (j := 2) (hk7 w.heap.size n1)).trans z2
      have y3 := (cell_of_block (j := 3) (hk7 w.heap.size n1)).trans z3
      have y4 := (cell_of_block (j := 4) (hk7 w.heap.size n1)).trans z4
      have HF7 : Hid (∀ j, j < 5 → w7.frozen? ⟨w.heap.size, j, none⟩ = false) := Lib.hid (fun j hj => (frozen_of_block (j := j) (hk7 w.heap.size n1)).trans (HF6.out j hj))
      have hq7 : q < w7.heap.size := by omega
      have hZ7 : w.heap.size < w7.heap.size := by omega
      clear hw7 hk7 hs7 a0 a1 a2 a3 a4 b0 b1 b2 b3 b4 v1 v2 e2 e3 e4 he5 he6 z0 z1 z2 z3 z4 hq6 hX6 hZ6
      go_upto_region 14 with (go_at_call 53; refine (refFill_any _ tk (S k) ⟨qk, p, fr, rd, wt⟩ HT7.out (Good.ok HS.out)).mono ?_; rintro e w8 ⟨rfl, ht8, ho8⟩)
      have hZT : w.heap.size ≠ tk := by omega
      have s0 := ho8.cell hq7 n3' t0
      have s1 := ho8.cell hq7 n3' t1
      have s2 := ho8.cell hq7 n3' t2
      have s3 := ho8.cell hq7 n3' t3
      have s4 := ho8.cell hq7 n3' t4
      have r0 := ho8.cell hZ7 hZT y0
      have r1 := ho8.cell hZ7 hZT y1
      have r2 := ho8.cell hZ7 hZT y2
      have r3 := ho8.cell hZ7 hZT y3
      have r4 := ho8.cell hZ7 hZT y4
      have hfz := fun j (hj : j < 5) => (frozen_of_block (j := j) (ho8.block w.heap.size hZ7 hZT)).trans (HF7.out j hj)
      have f0 := hfz 0 (by decide)
      have f1 := hfz 1 (by decide)
      have f2 := hfz 2 (by decide)
      have f3 := hfz 3 (by decide)
      have f4 := hfz 4 (by decide)
      have hend := cor_end H.out hk HB7.out (by rw [HTK.out]; exact ht8) (by rw [HTK.out]; exact ho8) (Nat.le_refl _) (.int .i64 qk) (.int .i64 p) (.int .i64 fr) (.bool rd) (.bool wt)
      rw [HTK.out] at hend
      have HE := Lib.hid hend
      clear ht8 ho8 hend hfz t0 t1 t2 t3 t4 y0 y1 y2 y3 y4
      go_wp2
      exact bodyPost_ret (v := .tuple #[trX ⟨qk, p, fr, rd, wt⟩, .bool false, .int .i64 0]) (by simp [results, Try.results34, go_sem, r0, r1, r2, r3, r4]) rfl ⟨rfl, HE.out⟩
    · have htr : transF mn m rk qk p (S k) = ((zT, false, walkC mn m rk p), S k) := by unfold transF; rw [HF.out, if_neg (by simp), if_neg hw]
      rw [HTR.out] at htr
      simp only [Prod.mk.injEq] at htr
      obtain ⟨⟨rfl, rfl, htc⟩, rfl⟩ := htr
      have hcd : ¬ tc = 0 := by rw [htc]; exact hw
      have HTC := Lib.hid htc.symm
      have HWV := Lib.hid (walkV_no hw)
      clear htc hw
      go_upto_region 10 with (go_at_call 52; refine (rwalk_gen _ mb mg mn mc m rk p HM4.out).mono ?_; rw [HWV.out, HTC.out]; rintro e w5 ⟨rfl, hb5⟩)
      obtain ⟨w6, hw6⟩ : ∃ z, z = w5.alloc (.cells #[.bool false, .bool false, .bool false, .bool false, .int .i64 0] 56) := ⟨_, rfl⟩
      rw [← hw6]
      have hb6 : Below w4.heap.size w4 w6 := by rw [hw6]; exact bal hb5 _
      obtain ⟨r0, r1, r2, r3, r4⟩ : TrAt w6 w.heap.size zT := TrAt.keep ⟨z0, z1, z2, z3, z4⟩ hZ4 hb6
      have f0 := (hb6.frozen (p := ⟨w.heap.size, 0, none⟩) hZ4).trans fz0
      have f1 := (hb6.frozen (p := ⟨w.heap.size, 1, none⟩) hZ4).trans fz1
      have f2 := (hb6.frozen (p := ⟨w.heap.size, 2, none⟩) hZ4).trans fz2
      have f3 := (hb6.frozen (p := ⟨w.heap.size, 3, none⟩) hZ4).trans fz3
      have f4 := (hb6.frozen (p := ⟨w.heap.size, 4, none⟩) hZ4).trans fz4
      have hend := cor_end H.out hk (HB4.out.trans (hb6.mono HB4.out.size)) (by rw [HTK.out]; exact HT4.out.call hb6) (TlbOnly.of_below (Below.refl _ _)) (Nat.le_refl _) (.int .i64 0) (.int .i64 0) (.int .i64 0) (.bool false) (.bool false)
      rw [HTK.out] at hend
      have HE := Lib.hid hend
      clear hb6 hw6 hb5 hend z0 z1 z2 z3 z4 y0 y1 y2 y3 y4 u0 u1 u2
      go_wp2
      exact bodyPost_ret (v := .tuple #[trX zT, .bool false, .int .i64 tc]) (by simp [results, Try.results34, go_sem, r0, r1, r2, r3, r4]) rfl ⟨rfl, HE.out⟩
end
/- chapter 7's own answer: Translate, Prefetch, Drop of anything. -/
section
set_option linter.unusedVariables false
set_option linter.unusedSimpArgs false
open Go.ChangeShapes Go.WideShapes Go.ChangeAt Go.RowKit Go.Shelf
/-- What Translate tells of a core and a page, and the caches behind it. -/
def transC (n : Nat) (R Q : Nat → Int) (S : Nat → TS) (mn : Nat) (m : Nat → Int) (k p : Int) : (TransX × Bool × Int) × (Nat → TS) :=
  if hasC n k = true ∧ 0 ≤ p ∧ p < 512 then (if R k.toNat = -1 then ((zT, false, 19), S) else ((transF mn m (R k.toNat) (Q k.toNat) p (S k.toNat)).1, setT S k.toNat (transF mn m (R k.toNat) (Q k.toNat) p (S k.toNat)).2)) else ((zT, false, 3), S)
theorem OnlyT.of_tlb {n k : Nat} {T : Nat → Nat} {a d : World} (h : TlbOnly (T k) a d) (hk : k < n) : OnlyT n T a d := ⟨h.os, h.tape, h.output, h.size, fun j hj hn => h.block j hj (hn k hk)⟩
theorem OnlyT.of_below {n : Nat} {T : Nat → Nat} {a d : World} (h : Below a.heap.size a d) : OnlyT n T a d := ⟨h.os, h.tape, h.output, h.size, fun j hj _ => h.block j hj⟩
theorem OnlyT.trans {n : Nat} {T : Nat → Nat} {a b d : World} (h : OnlyT n T a b) (k : OnlyT n T b d) : OnlyT n T a d := ⟨k.os.trans h.os, k.tape.trans h.tape, k.output.trans h.output, Nat.le_trans h.size k.size, fun j hj hn => (k.block j (Nat.lt_of_lt_of_le hj h.size) hn).trans (h.block j hj hn)⟩
theorem good_setT {n : Nat} {S : Nat → TS} {k : Nat} {s : TS} (h : ∀ i, i < n → Good (S i)) (hs : Good s) : ∀ i, i < n → Good (setT S k s i) := fun i hi => by
  unfold setT; split
  · exact hs
  · exact h i hi
theorem good_transC {n mn : Nat} {R Q : Nat → Int} {S : Nat → TS} {m : Nat → Int} {k p : Int} (h : ∀ i, i < n → Good (S i)) : ∀ i, i < n → Good ((transC n R Q S mn m k p).2 i) := by
  unfold transC
  split
  · rename_i hc
    split
    · exact h
    · obtain ⟨j, hj, e⟩ := has_nat hc.1
      subst e
      exact good_setT h (good_trans (h _ (by simpa using hj)))
  · exact h
set_option maxRecDepth 100000 in
set_option maxHeartbeats 1000000 in
theorem rtrans_bad (w : World) (b g n c : Nat) (R Q : Nat → Int) (T : Nat → Nat) (S : Nat → TS) (mb : Nat) (k p : Int) (h : RCor w b g n c R Q T S) (hc : ¬ (hasC n k = true ∧ 0 ≤ p ∧ p < 512)) :
    Calls Try.prog 34 #[.pointer (some ⟨b, 0, none⟩), .int .i64 k, .pointer (some ⟨mb, 0, none⟩), .int .i64 p] w fun e w' => e = .returned (.tuple #[trX zT, .bool false, .int .i64 3]) ∧ Below w.heap.size w w' := by
  have H := Lib.hid h
  clear h
  by_cases h1 : hasC n k = true
  · have H1 := Lib.hid h1
    by_cases p0 : p < 0
    · clear hc h1
      go_enter Try.func34, Try.ntmps34
      go_wp2_with (go_at_call 36; refine (rhas_any _ b g n c k R Q T S (H.out.call (bal (Below.refl _ _) _))).mono ?_; rw [H1.out]; rintro e w1 ⟨rfl, rfl⟩)
      exact bodyPost_ret (v := .tuple #[trX zT, .bool false, .int .i64 3]) (by simp [results, Try.results34, go_sem]) rfl ⟨rfl, bal (Below.refl _ _) _⟩
    · have p1 : p ≥ 512 := by
        by_cases q : p < 512
        · exact absurd ⟨h1, by omega, q⟩ hc
        · omega
      clear hc h1
      go_enter Try.func34, Try.ntmps34
      go_wp2_with (go_at_call 36; refine (rhas_any _ b g n c k R Q T S (H.out.call (bal (Below.refl _ _) _))).mono ?_; rw [H1.out]; rintro e w1 ⟨rfl, rfl⟩)
      exact bodyPost_ret (v := .tuple #[trX zT, .bool false, .int .i64 3]) (by simp [results, Try.results34, go_sem]) rfl ⟨rfl, bal (Below.refl _ _) _⟩
  · have H1 : Hid (hasC n k = false) := Lib.hid (by simpa using h1)
    clear hc h1
    go_enter Try.func34, Try.ntmps34
    go_wp2_with (go_at_call 36; refine (rhas_any _ b g n c k R Q T S (H.out.call (bal (Below.refl _ _) _))).mono ?_; rw [H1.out]; rintro e w1 ⟨rfl, rfl⟩)
    exact bodyPost_ret (v := .tuple #[trX zT, .bool false, .int .i64 3]) (by simp [results, Try.results34, go_sem]) rfl ⟨rfl, bal (Below.refl _ _) _⟩
set_option maxRecDepth 100000 in
set_option maxHeartbeats 1000000 in
theorem rtrans_idle (w : World) (b g n c k : Nat) (R Q : Nat → Int) (T : Nat → Nat) (S : Nat → TS) (mb : Nat) (p : Int) (h : RCor w b g n c R Q T S) (hk : k < n) (hr : R k = -1) (p0 : 0 ≤ p) (p1 : p < 512) :
    Calls Try.prog 34 #[.pointer (some ⟨b, 0, none⟩), .int .i64 k, .pointer (some ⟨mb, 0, none⟩), .int .i64 p] w fun e w' => e = .returned (.tuple #[trX zT, .bool false, .int .i64 19]) ∧ Below w.heap.size w w' := by
  have H := Lib.hid h
  have HB := Lib.hid (has_of hk)
  obtain ⟨c0, c1, c2⟩ := h.row k hk
  rw [hr] at c0
  have hd := h.hd
  have hbl := h.lb
  have hg := h.lg
  have n3 := h.n3
  have hk1 : (k : Int) < n := by omega
  have p2 : ¬ p < 0 := by omega
  have p3 : ¬ p ≥ 512 := by omega
  clear h hr
  go_enter Try.func34, Try.ntmps34
  go_upto_region 4 with (go_at_call 36; refine (rhas_any _ b g n c k R Q T S (H.out.call (bal (Below.refl _ _) _))).mono ?_; rw [HB.out]; rintro e w1 ⟨rfl, rfl⟩)
  obtain ⟨w2, hw2⟩ : ∃ z, z = (w.alloc (.cells #[.int .i64 0, .int .i64 0, .int .i64 0, .bool false, .bool false] 52)).alloc (.cells #[.int .i64 (-1), .int .i64 (Q k), .pointer (some ⟨T k, 0, none⟩)] 89) := ⟨_, rfl⟩
  rw [← hw2]
  have hb2 : Below w.heap.size w w2 := by rw [hw2]; exact bal (bal (Below.refl _ _) _) _
  have hx := row3 (w.alloc (.cells #[.int .i64 0, .int .i64 0, .int .i64 0, .bool false, .bool false] 52)) (-1) (Q k) (T k) 89
  rw [← hw2, show (w.alloc (.cells #[.int .i64 0, .int .i64 0, .int .i64 0, .bool false, .bool false] 52)).heap.size = w.heap.size + 1 by simp] at hx
  obtain ⟨x0, -, -⟩ := hx
  obtain ⟨z0, z1, z2, z3, z4⟩ : TrAt w2 w.heap.size zT := by rw [hw2]; exact (z_new w).keep (by simp) (bal (Below.refl _ _) _)
  have hfz : ∀ j, w2.frozen? ⟨w.heap.size, j, none⟩ = false := fun j => by
    rw [hw2]; exact ((bal (Below.refl _ _) _).frozen (p := ⟨w.heap.size, j, none⟩) (by simp)).trans (frozE w _ _ j)
  have f0 := hfz 0
  have f1 := hfz 1
  have f2 := hfz 2
  have f3 := hfz 3
  have f4 := hfz 4
  have HB2 := Lib.hid hb2
  clear hw2 hb2 hfz c0 c1 c2
  go_wp2
  exact bodyPost_ret (v := .tuple #[trX zT, .bool false, .int .i64 19]) (by simp [results, Try.results34, go_sem, z0, z1, z2, z3, z4]) rfl ⟨rfl, below_set5 HB2.out (Nat.le_refl _) _ _ _ _ _⟩
theorem rtrans_any (w : World) (b g n c : Nat) (R Q : Nat → Int) (T : Nat → Nat) (S : Nat → TS) (mb mg mn mc : Nat) (m : Nat → Int) (k p : Int) (h : RCor w b g n c R Q T S) (hG : ∀ i, i < n → Good (S i)) (hQ : ∀ i, i < n → RegOk (R i) (Q i)) (hM : RefAt w mb mg mn mc m) :
    Calls Try.prog 34 #[.pointer (some ⟨b, 0, none⟩), .int .i64 k, .pointer (some ⟨mb, 0, none⟩), .int .i64 p] w fun e w' => e = .returned (.tuple #[trX (transC n R Q S mn m k p).1.1, .bool (transC n R Q S mn m k p).1.2.1, .int .i64 (transC n R Q S mn m k p).1.2.2]) ∧ RCor w' b g n c R Q T (transC n R Q S mn m k p).2 ∧ OnlyT n T w w' := by
  unfold transC
  by_cases hc : hasC n k = true ∧ 0 ≤ p ∧ p < 512
  · rw [if_pos hc]
    obtain ⟨j, hj, rfl⟩ := has_nat hc.1
    simp only [Int.toNat_natCast]
    by_cases hr : R j = -1
    · rw [if_pos hr]
      exact (rtrans_idle w b g n c j R Q T S mb p h hj hr hc.2.1 hc.2.2).mono fun e w' ⟨h1, h2⟩ => ⟨h1, h.call h2, .of_below h2⟩
    · rw [if_neg hr]
      exact (rtrans_ok w b g n c j R Q T S mb mg mn mc m p h (hG j hj) hj hM hr (hQ j hj) hc.2.1 hc.2.2).mono fun e w' ⟨h1, h2, h3⟩ => ⟨h1, h2, .of_tlb h3 hj⟩
  · rw [if_neg hc]
    exact (rtrans_bad w b g n c R Q T S mb k p h hc).mono fun e w' ⟨h1, h2⟩ => ⟨h1, h.call h2, .of_below h2⟩
set_option maxHeartbeats 1000000 in
theorem rpref_any (w : World) (b g n c : Nat) (R Q : Nat → Int) (T : Nat → Nat) (S : Nat → TS) (mb mg mn mc : Nat) (m : Nat → Int) (k p : Int) (h : RCor w b g n c R Q T S) (hG : ∀ i, i < n → Good (S i)) (hQ : ∀ i, i < n → RegOk (R i) (Q i)) (hM : RefAt w mb mg mn mc m) :
    Calls Try.prog 35 #[.pointer (some ⟨b, 0, none⟩), .int .i64 k, .pointer (some ⟨mb, 0, none⟩), .int .i64 p] w fun e w' => e = .returned (.bool ((transC n R Q S mn m k p).1.2.2 == 0 && !(transC n R Q S mn m k p).1.2.1)) ∧ RCor w' b g n c R Q T (transC n R Q S mn m k p).2 ∧ OnlyT n T w w' := by
  obtain ⟨⟨⟨x, hit, cd⟩, s'⟩, hz⟩ : ∃ z, transC n R Q S mn m k p = z := ⟨_, rfl⟩
  have HC := Lib.hid (rtrans_any w b g n c R Q T S mb mg mn mc m k p h hG hQ hM)
  rw [hz] at HC
  rw [hz]
  clear hz h hM hG hQ
  by_cases hc : cd = 0
  · subst hc
    cases hit
    all_goals
      go_enter Try.func35, Try.ntmps35
      go_wp2_with (go_at_call 34; refine HC.out.mono ?_; rintro e w1 ⟨rfl, hc1, ho1⟩)
      go_ret
      exact ⟨rfl, hc1.call (bal (Below.refl _ _) _), ho1.trans (OnlyT.of_below (bal (Below.refl _ _) _))⟩
  · have hz : (cd == 0) = false := beq_eq_false_iff_ne.2 hc
    clear hc
    go_enter Try.func35, Try.ntmps35
    go_wp2_with (go_at_call 34; refine HC.out.mono ?_; rintro e w1 ⟨rfl, hc1, ho1⟩)
    go_ret
    exact ⟨ret_bool (by simp [hz]), hc1.call (bal (Below.refl _ _) _), ho1.trans (OnlyT.of_below (bal (Below.refl _ _) _))⟩
theorem good_dropL {n : Nat} {S : Nat → TS} (out : TransX → Bool) (h : ∀ i, i < n → Good (S i)) : ∀ k, k ≤ n → ∀ i, i < n → Good ((dropL S out (frs n k)).1 i) := fun k hk i hi => by
  rw [dropL_at S out k hk i]
  split
  · exact good_dropF (h i hi) out
  · exact h i hi
theorem dropF_8 (S : TS) (out : TransX → Bool) : (dropF S out (fullP S 8)).2 ≤ 8 := by
  have h1 := dropF_le out (fullP S 8) (S, 0)
  have h2 := fullP_len S 8
  unfold dropF
  simp only [Nat.zero_add] at h1
  omega
theorem dropL_le {n : Nat} (S : Nat → TS) (out : TransX → Bool) : ∀ k, k ≤ n → (dropL S out (frs n k)).2 ≤ 8 * k
  | 0, _ => by simp [frs, dropL]
  | k + 1, hk => by
    have ih := dropL_le (n := n) S out k (by omega)
    rw [frs_succ (l0 := n) (k := k) (by omega), dropL_snoc]
    have := dropF_8 ((dropL S out (frs n k)).1 k) out
    simp only
    omega
set_option maxHeartbeats 2000000 in
theorem rcdrop_any (w : World) (b g n c : Nat) (R Q : Nat → Int) (T : Nat → Nat) (S : Nat → TS) (a pc : Int) (h : RCor w b g n c R Q T S) (hG : ∀ i, i < n → Good (S i)) :
    Calls Try.prog 38 #[.pointer (some ⟨b, 0, none⟩), .int .i64 a, .int .i64 pc] w fun e w' => e = .returned (.int .i64 ((dropL S (outR a pc false) (frs n n)).2 : Nat)) ∧ RCor w' b g n c R Q T (dropL S (outR a pc false) (frs n n)).1 ∧ OnlyT n T w w' := by
  have H := Lib.hid h
  have HG := Lib.hid hG
  have n3 := h.n3
  clear h hG
  go_enter Try.func38, Try.ntmps38
  go_wp2
  go_loopw [7, 8] (fun s i wr => ∃ k : Nat, k ≤ n ∧ i = .int .i64 k ∧ s = .int .i64 ((dropL S (outR a pc false) (frs n k)).2 : Nat) ∧ Hid (RCor wr b g n c R Q T (dropL S (outR a pc false) (frs n k)).1) ∧ Hid (OnlyT n T w wr)) (fun _ i _ => n - (intOf i).toNat)
  case atStart => exact ⟨0, Nat.zero_le _, rfl, rfl, H, Lib.hid (OnlyT.of_below (Below.refl _ _))⟩
  case round =>
    obtain ⟨k, hk, rfl, rfl, HC, HO⟩ := hrel
    have hle := dropL_le S (outR a pc false) k hk
    have hd := HC.out.hd
    by_cases hlt : k < n
    · have hltI : (k : Int) < n := by omega
      have c2 := (HC.out.row k hlt).2.2
      have hlg := HC.out.lg
      have hgd := good_dropL (n := n) (outR a pc false) HG.out k hk k hlt
      have HGD := Lib.hid hgd
      have hd8 := dropF_8 ((dropL S (outR a pc false) (frs n k)).1 k) (outR a pc false)
      have HS1 : Hid (dropL S (outR a pc false) (frs n (k + 1)) = (setT (dropL S (outR a pc false) (frs n k)).1 k (dropF ((dropL S (outR a pc false) (frs n k)).1 k) (outR a pc false) (fullP ((dropL S (outR a pc false) (frs n k)).1 k) 8)).1, (dropL S (outR a pc false) (frs n k)).2 + (dropF ((dropL S (outR a pc false) (frs n k)).1 k) (outR a pc false) (fullP ((dropL S (outR a pc false) (frs n k)).1 k) 8)).2)) := Lib.hid (by rw [frs_succ (l0 := n) (k := k) hlt, dropL_snoc])
      generalize hcur : dropL S (outR a pc false) (frs n k) = cur at *
      obtain ⟨S1, cn⟩ := cur
      simp only at hle hgd hd8 HS1 HC HGD
      obtain ⟨⟨s', d⟩, hdd⟩ : ∃ z, dropF (S1 k) (outR a pc false) (fullP (S1 k) 8) = z := ⟨_, rfl⟩
      rw [hdd] at hd8 HS1
      simp only at hd8 HS1
      have HD := Lib.hid hdd
      have hsum : IntKind.i64.wrap ((cn : Int) + (d : Int)) = (cn : Int) + (d : Int) := IntWalk.i64_in _ (by omega)
      have HLT := Lib.hid hlt
      clear hgd hdd hcur hlt
      go_wp2_with (go_at_call 54; refine (refDrop_any _ (T k) (S1 k) a pc false (HC.out.tlb k HLT.out) (Good.ok HGD.out)).mono ?_; rw [HD.out]; rintro e w1 ⟨rfl, ht1, ho1⟩; have HC1 := Lib.hid (HC.out.put HLT.out ht1 ho1); have HO1 := Lib.hid (HO.out.trans (OnlyT.of_tlb ho1 HLT.out)); clear ht1 ho1)
      go_roundw
      case rel => exact ⟨k + 1, by omega, by go_num, by rw [HS1.out]; go_num, Lib.hid (by rw [HS1.out]; exact HC1.out), HO1⟩
      case measure => simp [intOf]; omega
    · obtain rfl : k = n := by omega
      go_wp2
      go_ret
      exact ⟨rfl, HC.out, HO.out⟩
end
/- package cores: its calls of anything. -/
section
set_option linter.unusedVariables false
set_option linter.unusedSimpArgs false
open Go.ChangeShapes Go.WideShapes Go.ChangeAt Go.RowKit Go.Shelf
theorem bad_of {n : Nat} {k : Int} (h : ¬ hasC n k = true) : k < 0 ∨ (n : Int) ≤ k := by
  by_cases q : k < 0
  · exact .inl q
  · right
    by_cases r : k < n
    · exact absurd (decide_eq_true ⟨by omega, r⟩) h
    · omega
set_option maxRecDepth 100000 in
set_option maxHeartbeats 1000000 in
theorem cset_no (w : World) (b g n c : Nat) (k r s : Int) (R Q : Nat → Int) (T : Nat → Nat) (S : Nat → TS) (h : CoresAt w b g n c R Q T S) (h0 : setC n k r s ≠ 0) :
    Calls Try.prog 19 #[.pointer (some ⟨b, 0, none⟩), .int .i64 k, .int .i64 r, .int .i64 s] w fun e w' => e = .returned (.int .i64 (setC n k r s)) ∧ w = w' := by
  have H := Lib.hid h
  clear h
  unfold setC at *
  by_cases h1 : hasC n k = true
  · rw [if_pos h1] at h0 ⊢
    obtain ⟨j, hj, rfl⟩ := has_nat h1
    by_cases h2 : (r = -1 ∧ s = 0) ∨ (0 ≤ r ∧ r < 64 ∧ 1 ≤ s)
    · rw [if_pos h2] at h0; exact absurd rfl h0
    · rw [if_neg h2]
      have h3 : ¬ (0 ≤ r ∧ r < 64 ∧ 1 ≤ s) := fun q => h2 (.inr q)
      clear h0 h1
      by_cases q1 : r = -1
      · subst q1
        have q2 : ¬ s = 0 := fun e => h2 (.inl ⟨rfl, e⟩)
        have q3 : (s == 0) = false := beq_eq_false_iff_ne.2 q2
        clear h2 h3
        go_enter Try.func19, Try.ntmps19
        go_wp2_with (go_at_call 42; refine (get_ok _ b g n c j R Q T S H.out hj).mono ?_; rintro e w1 ⟨rfl, rfl⟩)
        go_ret
        exact ⟨rfl, rfl⟩
      · have q2 : (r == -1) = false := beq_eq_false_iff_ne.2 q1
        by_cases q3 : 0 ≤ r
        · by_cases q4 : r < 64
          · have q5 : ¬ 1 ≤ s := fun e => h3 ⟨q3, q4, e⟩
            have q6 : decide (1 ≤ s) = false := decide_eq_false q5
            clear h2 h3 q1
            go_enter Try.func19, Try.ntmps19
            go_wp2_with (go_at_call 42; refine (get_ok _ b g n c j R Q T S H.out hj).mono ?_; rintro e w1 ⟨rfl, rfl⟩)
            go_ret
            exact ⟨rfl, rfl⟩
          · clear h2 h3 q1
            go_enter Try.func19, Try.ntmps19
            go_wp2_with (go_at_call 42; refine (get_ok _ b g n c j R Q T S H.out hj).mono ?_; rintro e w1 ⟨rfl, rfl⟩)
            go_ret
            exact ⟨rfl, rfl⟩
        · clear h2 h3 q1
          go_enter Try.func19, Try.ntmps19
          go_wp2_with (go_at_call 42; refine (get_ok _ b g n c j R Q T S H.out hj).mono ?_; rintro e w1 ⟨rfl, rfl⟩)
          go_ret
          exact ⟨rfl, rfl⟩
  · rw [if_neg h1]
    have HK := Lib.hid (bad_of h1)
    clear h1 h0
    go_enter Try.func19, Try.ntmps19
    go_wp2_with (go_at_call 42; refine (get_bad _ b g n c k R Q T S H.out HK.out).mono ?_; rintro e w1 ⟨rfl, rfl⟩)
    go_ret
    exact ⟨rfl, rfl⟩
theorem cset_yes (w : World) (b g n c k : Nat) (r s : Int) (R Q : Nat → Int) (T : Nat → Nat) (S : Nat → TS) (h : CoresAt w b g n c R Q T S) (hk : k < n) (hr : (r = -1 ∧ s = 0) ∨ (0 ≤ r ∧ r < 64 ∧ 1 ≤ s)) :
    Calls Try.prog 19 #[.pointer (some ⟨b, 0, none⟩), .int .i64 k, .int .i64 r, .int .i64 s] w fun e w' => e = .returned (.int .i64 0) ∧ CoresAt w' b g n c (setR R k r) (setR Q k s) T S ∧ BlkOnly g w w' := by
  rcases hr with ⟨rfl, rfl⟩ | ⟨r0, r1, s1⟩
  · have H := Lib.hid h
    obtain ⟨c0, c1, -⟩ := h.row k hk
    have hf := h.free
    clear h
    go_enter Try.func19, Try.ntmps19
    go_wp2_with (go_at_call 42; refine (get_ok _ b g n c k R Q T S H.out hk).mono ?_; rintro e w1 ⟨rfl, rfl⟩)
    go_ret
    exact ⟨rfl, H.out.setRegs hk (.inl ⟨rfl, rfl⟩), ((BlkOnly.refl g w).set _ _).set _ _⟩
  · exact cset_some w b g n c k R Q T S r s h hk r0 r1 s1
set_option maxRecDepth 100000 in
set_option maxHeartbeats 1000000 in
theorem ctrans_bad (w : World) (b g n c : Nat) (R Q : Nat → Int) (T : Nat → Nat) (S : Nat → TS) (mb : Nat) (k p : Int) (h : CoresAt w b g n c R Q T S) (hc : ¬ (hasC n k = true ∧ 0 ≤ p ∧ p < 512)) :
    Calls Try.prog 24 #[.pointer (some ⟨b, 0, none⟩), .int .i64 k, .pointer (some ⟨mb, 0, none⟩), .int .i64 p] w fun e w' => e = .returned (.tuple #[trX zT, .bool false, .int .i64 3]) ∧ Below w.heap.size w w' := by
  have H := Lib.hid h
  clear h
  by_cases h1 : hasC n k = true
  · obtain ⟨j, hj, rfl⟩ := has_nat h1
    by_cases p0 : p < 0
    · clear hc h1
      go_enter Try.func24, Try.ntmps24
      go_wp2_with (go_at_call 42; refine (get_ok _ b g n c j R Q T S (H.out.call (bal (Below.refl _ _) _)) hj).mono ?_; rintro e w1 ⟨rfl, rfl⟩)
      exact bodyPost_ret (v := .tuple #[trX zT, .bool false, .int .i64 3]) (by simp [results, Try.results24, go_sem]) rfl ⟨rfl, bal (Below.refl _ _) _⟩
    · have p1 : p ≥ 512 := by
        by_cases q : p < 512
        · exact absurd ⟨h1, by omega, q⟩ hc
        · omega
      clear hc h1
      go_enter Try.func24, Try.ntmps24
      go_wp2_with (go_at_call 42; refine (get_ok _ b g n c j R Q T S (H.out.call (bal (Below.refl _ _) _)) hj).mono ?_; rintro e w1 ⟨rfl, rfl⟩)
      exact bodyPost_ret (v := .tuple #[trX zT, .bool false, .int .i64 3]) (by simp [results, Try.results24, go_sem]) rfl ⟨rfl, bal (Below.refl _ _) _⟩
  · have HK := Lib.hid (bad_of h1)
    clear hc h1
    go_enter Try.func24, Try.ntmps24
    go_wp2_with (go_at_call 42; refine (get_bad _ b g n c k R Q T S (H.out.call (bal (Below.refl _ _) _)) HK.out).mono ?_; rintro e w1 ⟨rfl, rfl⟩)
    exact bodyPost_ret (v := .tuple #[trX zT, .bool false, .int .i64 3]) (by simp [results, Try.results24, go_sem]) rfl ⟨rfl, bal (Below.refl _ _) _⟩
set_option maxRecDepth 100000 in
set_option maxHeartbeats 1000000 in
theorem ctrans_idle (w : World) (b g n c k : Nat) (R Q : Nat → Int) (T : Nat → Nat) (S : Nat → TS) (mb : Nat) (p : Int) (h : CoresAt w b g n c R Q T S) (hk : k < n) (hr : R k = -1) (p0 : 0 ≤ p) (p1 : p < 512) :
    Calls Try.prog 24 #[.pointer (some ⟨b, 0, none⟩), .int .i64 k, .pointer (some ⟨mb, 0, none⟩), .int .i64 p] w fun e w' => e = .returned (.tuple #[trX zT, .bool false, .int .i64 19]) ∧ Below w.heap.size w w' := by
  have H := Lib.hid h
  have c0 := (h.row k hk).1
  rw [hr] at c0
  have hg := h.lg
  have p2 : ¬ p < 0 := by omega
  have p3 : ¬ p ≥ 512 := by omega
  clear h hr
  go_enter Try.func24, Try.ntmps24
  go_wp2_with (go_at_call 42; refine (get_ok _ b g n c k R Q T S (H.out.call (bal (Below.refl _ _) _)) hk).mono ?_; rintro e w1 ⟨rfl, rfl⟩)
  exact bodyPost_ret (v := .tuple #[trX zT, .bool false, .int .i64 19]) (by simp [results, Try.results24, go_sem]) rfl ⟨rfl, bal (Below.refl _ _) _⟩
theorem ctrans_any (w : World) (b g n c : Nat) (R Q : Nat → Int) (T : Nat → Nat) (S : Nat → TS) (mb mg mn mc : Nat) (m : Nat → Int) (k p : Int) (h : CoresAt w b g n c R Q T S) (hM : MemAt w mb mg mn mc m) :
    Calls Try.prog 24 #[.pointer (some ⟨b, 0, none⟩), .int .i64 k, .pointer (some ⟨mb, 0, none⟩), .int .i64 p] w fun e w' => e = .returned (.tuple #[trX (transC n R Q S mn m k p).1.1, .bool (transC n R Q S mn m k p).1.2.1, .int .i64 (transC n R Q S mn m k p).1.2.2]) ∧ CoresAt w' b g n c R Q T (transC n R Q S mn m k p).2 ∧ OnlyT n T w w' := by
  unfold transC
  by_cases hc : hasC n k = true ∧ 0 ≤ p ∧ p < 512
  · rw [if_pos hc]
    obtain ⟨j, hj, rfl⟩ := has_nat hc.1
    simp only [Int.toNat_natCast]
    by_cases hr : R j = -1
    · rw [if_pos hr]
      exact (ctrans_idle w b g n c j R Q T S mb p h hj hr hc.2.1 hc.2.2).mono fun e w' ⟨h1, h2⟩ => ⟨h1, h.call h2, .of_below h2⟩
    · rw [if_neg hr]
      exact (ctrans_ok w b g n c j R Q T S mb mg mn mc m p h hj hM hr hc.2.1 hc.2.2).mono fun e w' ⟨h1, h2, h3⟩ => ⟨h1, h2, .of_tlb h3 hj⟩
  · rw [if_neg hc]
    exact (ctrans_bad w b g n c R Q T S mb k p h hc).mono fun e w' ⟨h1, h2⟩ => ⟨h1, h.call h2, .of_below h2⟩
set_option maxHeartbeats 1000000 in
theorem cpref_any (w : World) (b g n c : Nat) (R Q : Nat → Int) (T : Nat → Nat) (S : Nat → TS) (mb mg mn mc : Nat) (m : Nat → Int) (k p : Int) (h : CoresAt w b g n c R Q T S) (hM : MemAt w mb mg mn mc m) :
    Calls Try.prog 22 #[.pointer (some ⟨b, 0, none⟩), .int .i64 k, .pointer (some ⟨mb, 0, none⟩), .int .i64 p] w fun e w' => e = .returned (.bool ((transC n R Q S mn m k p).1.2.2 == 0 && !(transC n R Q S mn m k p).1.2.1)) ∧ CoresAt w' b g n c R Q T (transC n R Q S mn m k p).2 ∧ OnlyT n T w w' := by
  obtain ⟨⟨⟨x, hit, cd⟩, s'⟩, hz⟩ : ∃ z, transC n R Q S mn m k p = z := ⟨_, rfl⟩
  have HC := Lib.hid (ctrans_any w b g n c R Q T S mb mg mn mc m k p h hM)
  rw [hz] at HC
  rw [hz]
  clear hz h hM
  by_cases hc : cd = 0
  · subst hc
    cases hit
    all_goals
      go_enter Try.func22, Try.ntmps22
      go_wp2_with (go_at_call 24; refine HC.out.mono ?_; rintro e w1 ⟨rfl, hc1, ho1⟩)
      go_ret
      exact ⟨rfl, hc1.call (bal (Below.refl _ _) _), ho1.trans (OnlyT.of_below (bal (Below.refl _ _) _))⟩
  · have hz : (cd == 0) = false := beq_eq_false_iff_ne.2 hc
    clear hc
    go_enter Try.func22, Try.ntmps22
    go_wp2_with (go_at_call 24; refine HC.out.mono ?_; rintro e w1 ⟨rfl, hc1, ho1⟩)
    go_ret
    exact ⟨ret_bool (by simp [hz]), hc1.call (bal (Below.refl _ _) _), ho1.trans (OnlyT.of_below (bal (Below.refl _ _) _))⟩
theorem cevict_bad (w : World) (b g n c : Nat) (k i j : Int) (R Q : Nat → Int) (T : Nat → Nat) (S : Nat → TS) (h : CoresAt w b g n c R Q T S) (hc : ¬ hasC n k = true) :
    Calls Try.prog 23 #[.pointer (some ⟨b, 0, none⟩), .int .i64 k, .int .i64 i, .int .i64 j] w fun e w' => e = .returned (.bool false) ∧ w = w' := by
  have H := Lib.hid h
  have HK := Lib.hid (bad_of hc)
  clear h hc
  go_enter Try.func23, Try.ntmps23
  go_wp2_with (go_at_call 42; refine (get_bad _ b g n c k R Q T S H.out HK.out).mono ?_; rintro e w1 ⟨rfl, rfl⟩)
  go_ret
  exact ⟨rfl, rfl⟩
theorem call_bad (w : World) (b g n c : Nat) (k : Int) (R Q : Nat → Int) (T : Nat → Nat) (S : Nat → TS) (h : CoresAt w b g n c R Q T S) (hc : k < 0 ∨ (n : Int) ≤ k) :
    Calls Try.prog 26 #[.pointer (some ⟨b, 0, none⟩), .int .i64 k] w fun e w' => e = .returned (.slice none 0 0) ∧ w = w' := by
  have H := Lib.hid h
  have HK := Lib.hid hc
  clear h hc
  go_enter Try.func26, Try.ntmps26
  go_wp2_with (go_at_call 42; refine (get_bad _ b g n c k R Q T S H.out HK.out).mono ?_; rintro e w1 ⟨rfl, rfl⟩)
  go_ret
  exact ⟨rfl, rfl⟩
theorem cregs_bad (w : World) (b g n c : Nat) (k : Int) (R Q : Nat → Int) (T : Nat → Nat) (S : Nat → TS) (h : CoresAt w b g n c R Q T S) (hc : k < 0 ∨ (n : Int) ≤ k) :
    Calls Try.prog 28 #[.pointer (some ⟨b, 0, none⟩), .int .i64 k] w fun e w' => e = .returned (.tuple #[.int .i64 0, .int .i64 0, .int .i64 3]) ∧ w = w' := by
  have H := Lib.hid h
  have HK := Lib.hid hc
  clear h hc
  go_enter Try.func28, Try.ntmps28
  go_wp2_with (go_at_call 42; refine (get_bad _ b g n c k R Q T S H.out HK.out).mono ?_; rintro e w1 ⟨rfl, rfl⟩)
  exact bodyPost_ret (v := .tuple #[.int .i64 0, .int .i64 0, .int .i64 3]) (by simp [results, Try.results28, go_sem]) rfl ⟨rfl, rfl⟩
theorem call_own (w : World) (b g n c k : Nat) (R Q : Nat → Int) (T : Nat → Nat) (S : Nat → TS) (h : CoresAt w b g n c R Q T S) (hk : k < n) :
    Calls Try.prog 26 #[.pointer (some ⟨b, 0, none⟩), .int .i64 k] w fun e W' => ∃ p c g, e = .returned (.slice p (allN (S k)) c) ∧ OwnT W' w.heap.size g p (allN (S k)) c (allT (S k)) ∧ Below w.heap.size w W' := by
  have H := Lib.hid h
  have c2 := (h.row k hk).2.2
  clear h
  go_enter Try.func26, Try.ntmps26
  go_wp2_with (first
    | (go_at_call 42; refine (get_ok _ b g n c k R Q T S H.out hk).mono ?_; rintro e w1 ⟨rfl, rfl⟩)
    | (go_at_call 49; refine (tall_own _ (T k) (S k) (H.out.tlb k hk) (Good.ok (H.out.good k hk))).mono ?_; rintro e w2 ⟨p', c', g', rfl, hp', hb'⟩))
  go_ret
  exact ⟨_, _, _, rfl, hp', hb'⟩
end
/- chapter 7: both sides alike. -/
section
set_option linter.unusedVariables false
set_option linter.unusedSimpArgs false
open Go.ChangeShapes Go.WideShapes Go.ChangeAt Go.RowKit Go.Shelf
theorem overT_own (w : World) (base g : Nat) (p : Option Addr) (n c : Nat) (T : Nat → TransX) (h : OwnT w base g p n c T) (h4 : n ≤ 8) (hb : base ≤ w.heap.size) :
    Calls Try.prog 41 #[.slice p n c] w fun e w' => (∃ v, e = .returned v) ∧ Below base w w' := by
  obtain ⟨xs, hx⟩ := h.own
  refine (overT_any w base p n c xs hx h4).mono ?_
  rintro e w' ⟨hv, hg⟩
  exact ⟨hv, (Below.refl _ _).grown hg hb (fun k ek => (hx.lt k ek).1)⟩
theorem allN_8 (S : TS) : allN S ≤ 8 := by have := fullP_len S 8; unfold allN; omega
set_option maxRecDepth 100000 in
set_option maxHeartbeats 4000000 in
theorem alike_any (w : World) (b g n c : Nat) (rb rg rc : Nat) (R Q : Nat → Int) (T RT : Nat → Nat) (S : Nat → TS) (h : CoresAt w b g n c R Q T S) (k : RCor w rb rg n rc R Q RT S) :
    Calls Try.prog 18 #[.pointer (some ⟨b, 0, none⟩), .pointer (some ⟨rb, 0, none⟩)] w fun e w' => e = .returned (.bool true) ∧ Below w.heap.size w w' := by
  have HC := Lib.hid h
  have HR := Lib.hid k
  have n3 := k.n3
  have hdw := k.hd
  clear h k
  go_enter Try.func18, Try.ntmps18
  go_upto_region 1 with (fail)
  have HCd := Lib.hid (HC.out.call (Below.refl _ _).drew)
  have hd : w.drew.cell? ⟨rb, 0, none⟩ = some (.slice (some ⟨rg, 0, none⟩) n rc) := hdw
  clear hdw
  go_region_held3 (fun w' => w'.cell? ⟨rb, 0, none⟩ = some (.slice (some ⟨rg, 0, none⟩) n rc))
    (exact hd)
    (first | (go_at_call 29; (with_reducible refine (clen_ok _ b g n c R Q T S HCd.out).mono ?_); rintro e w1 ⟨rfl, rfl⟩))
  have hbd : Below w.heap.size w w.drew := (Below.refl _ _).drew
  have HB0 := Lib.hid hbd
  clear hbd hd HCd
  generalize w.drew = w0 at *
  go_wp2
  go_loopw [5, 6, 7, 8, 9] (fun i _ _ _ _ wr => ∃ j : Nat, j ≤ n ∧ i = .int .i64 j ∧ Hid (Below w.heap.size w wr)) (fun i _ _ _ _ _ => n - (intOf i).toNat)
  case atStart => exact ⟨0, Nat.zero_le _, rfl, HB0⟩
  clear HB0
  case round =>
    obtain ⟨j, hj, rfl, HB⟩ := hrel
    have hdr := (HR.out.call HB.out).hd
    by_cases hlt : j < n
    · have hltI : (j : Int) < n := by omega
      have HCr := Lib.hid (HC.out.call HB.out)
      have HRr := Lib.hid (HR.out.call HB.out)
      have hrl := (HR.out.call HB.out).lb
      generalize hr : R j = rj at *
      generalize hq : Q j = qj at *
      have HRJ := Lib.hid hr
      have HQJ := Lib.hid hq
      clear hr hq
      go_upto_region 7 with (go_at_call 28; (with_reducible refine (cregs_ok _ b g n c j R Q T S HCr.out hlt).mono ?_); rw [HRJ.out, HQJ.out]; rintro e w1 ⟨rfl, hb1⟩; have HB1 := Lib.hid hb1; clear hb1)
      have HC1 := Lib.hid (HCr.out.call HB1.out)
      go_upto_region 8 with (go_at_call 26; (with_reducible refine (call_own _ b g n c j R Q T S HC1.out hlt).mono ?_); rintro e w2 ⟨p2, c2, g2, rfl, ho2, hb2⟩; have HO2 := Lib.hid ho2; have HB2 := Lib.hid hb2; clear ho2 hb2)
      have HR2 := Lib.hid ((HRr.out.call HB1.out).call HB2.out)
      obtain ⟨e0, e1, e2⟩ := HR2.out.row j hlt
      rw [HRJ.out] at e0
      rw [HQJ.out] at e1
      have hd2 := HR2.out.hd
      have HGS := Lib.hid (Good.ok (HC.out.good j hlt))
      have h8 := allN_8 (S j)
      have HTJ := Lib.hid (HR2.out.tlb j hlt)
      have HB12 := Lib.hid (HB.out.trans (HB1.out.mono HB.out.size))
      clear hdr hrl
      generalize hnn : allN (S j) = nn at *
      have HNN := Lib.hid hnn
      clear hnn
      go_upto_region 10 with (first
        | (go_at_call 40; (with_reducible refine (rall_own _ (RT j) (S j) HTJ.out HGS.out).mono ?_); rw [HNN.out]; rintro e w3 ⟨p3, c3, g3, rfl, ho3, hb3⟩; have HO3 := Lib.hid ho3; have HB3 := Lib.hid hb3; have HO23 := Lib.hid (HO2.out.below hb3); clear ho3 hb3)
        | (go_at_call 39; (with_reducible refine (sameT_yes _ p2 p3 c2 c3 g2 g3 nn (allT (S j)) (by omega) HO23.out.at_ HO3.out.at_ HO23.out.rows HO3.out.rows).mono ?_); rintro e w4 ⟨rfl, hb4⟩; have HB4 := Lib.hid hb4; have HO24 := Lib.hid (HO23.out.below hb4); clear hb4))
      have HB14 := Lib.hid (bgo (bgo HB2.out HB3.out) HB4.out)
      go_wp2_with (go_at_call 41; (with_reducible refine (overT_own _ _ g2 p2 nn c2 (allT (S j)) HO24.out h8 HB14.out.size).mono ?_); rintro e w5 ⟨⟨v5, rfl⟩, hb5⟩; have HB15 := Lib.hid (HB14.out.trans hb5); clear hb5)
      go_roundw
      case rel => first | exact ⟨j + 1, by omega, by go_num, Lib.hid (HB12.out.trans (HB15.out.mono HB12.out.size))⟩ | ((repeat apply Exists.intro); exact ⟨⟨j + 1, by omega, by go_num, Lib.hid (HB12.out.trans (HB15.out.mono HB12.out.size))⟩, rfl⟩)
      case measure => simp [intOf]; omega
    · obtain rfl : j = n := by omega
      have HCr := Lib.hid (HC.out.call HB.out)
      have hb1 : (j : Int) < 0 ∨ (j : Int) ≤ j := .inr (Int.le_refl _)
      have HN1 := Lib.hid hb1
      have HN2 : Hid ((-1 : Int) < 0 ∨ (j : Int) ≤ -1) := Lib.hid (.inl (by decide))
      clear hb1
      go_wp2_with (first
        | (go_at_call 28; (first | (with_reducible refine (cregs_bad _ b g j c j R Q T S HCr.out HN1.out).mono ?_) | (with_reducible refine (cregs_bad _ b g j c (-1) R Q T S HCr.out HN2.out).mono ?_)); rintro e w1 ⟨rfl, rfl⟩)
        | (go_at_call 26; (with_reducible refine (call_bad _ b g j c j R Q T S HCr.out HN1.out).mono ?_); rintro e w2 ⟨rfl, rfl⟩))
      go_ret
      exact ⟨rfl, HB.out⟩
end
/- chapter 7: both machines side by side; each call on one side, then on the other. -/
section
set_option linter.unusedVariables false
set_option linter.unusedSimpArgs false
open Go.ChangeShapes Go.WideShapes Go.ChangeAt Go.RowKit Go.Shelf
/-- Where all lies: the cores, the own cores, the memory, the own memory; a colour for each block (0: none of these). -/
structure Pl where
  b : Nat
  g : Nat
  n : Nat
  c : Nat
  rb : Nat
  rg : Nat
  rc : Nat
  mb : Nat
  mg : Nat
  mc : Nat
  ub : Nat
  ug : Nat
  uc : Nat
  T : Nat → Nat
  RT : Nat → Nat
  col : Nat → Nat
  lim : Nat
structure Mach (W w : World) (P : Pl) (R Q : Nat → Int) (S : Nat → TS) (m : Nat → Int) (R2 Q2 : Nat → Int) (S2 : Nat → TS) (m2 : Nat → Int) : Prop where
  co : CoresAt w P.b P.g P.n P.c R Q P.T S
  ro : RCor w P.rb P.rg P.n P.rc R2 Q2 P.RT S2
  me : MemAt w P.mb P.mg 8 P.mc m
  mr : RefAt w P.ub P.ug 8 P.uc m2
  k1 : P.col P.b = 1 ∧ P.col P.g = 1 ∧ ∀ i, i < P.n → P.col (P.T i) = 1
  k2 : P.col P.rb = 2 ∧ P.col P.rg = 2 ∧ ∀ i, i < P.n → P.col (P.RT i) = 2
  k3 : P.col P.mb = 3 ∧ P.col P.mg = 3
  k4 : P.col P.ub = 4 ∧ P.col P.ug = 4
  low : ∀ k, k < W.heap.size → P.col k = 0
  rq : ∀ i, i < P.n → RegOk (R2 i) (Q2 i)
  rg : ∀ i, i < P.n → Good (S2 i)
  bel : Below W.heap.size W w
  hi : ∀ k, P.lim ≤ k → P.col k = 0
  ll : P.lim ≤ w.heap.size
def Turn (col : Nat → Nat) (c : Nat) (w w' : World) : Prop := w'.os = w.os ∧ w'.tape = w.tape ∧ w'.output = w.output ∧ w.heap.size ≤ w'.heap.size ∧ ∀ k, k < w.heap.size → col k ≠ c → w'.heap[k]? = w.heap[k]?
structure Keep0 (P : Pl) (w w' : World) : Prop where
  sz : w.heap.size ≤ w'.heap.size
  blk : ∀ k, k < w.heap.size → P.col k = 0 → w'.heap[k]? = w.heap[k]?
section
variable {W w w' : World} {P : Pl} {R Q R2 Q2 R' Q' : Nat → Int} {S S2 S' : Nat → TS} {m m2 m' : Nat → Int}
theorem Turn.of_blk {g : Nat} {col : Nat → Nat} {c : Nat} (h : BlkOnly g w w') (hc : col g = c) : Turn col c w w' := ⟨h.os, h.tape, h.output, h.size, fun k hk hn => h.block k hk (fun e => hn (by rw [e]; exact hc))⟩
theorem Turn.of_only {n : Nat} {T : Nat → Nat} {col : Nat → Nat} {c : Nat} (h : OnlyT n T w w') (hc : ∀ i, i < n → col (T i) = c) : Turn col c w w' := ⟨h.os, h.tape, h.output, h.size, fun k hk hn => h.block k hk (fun i hi e => hn (by rw [e]; exact hc i hi))⟩
theorem Turn.of_below {col : Nat → Nat} {c : Nat} (h : Below w.heap.size w w') : Turn col c w w' := ⟨h.os, h.tape, h.output, h.size, fun k hk _ => h.block k hk⟩
theorem Turn.keep {c : Nat} (h : Turn P.col c w w') (hc : c ≠ 0) : Keep0 P w w' := ⟨h.2.2.2.1, fun k hk h0 => h.2.2.2.2 k hk (by rw [h0]; exact Ne.symm hc)⟩
theorem Turn.bel {c : Nat} (h : Turn P.col c w w') (hc : c ≠ 0) (low : ∀ k, k < W.heap.size → P.col k = 0) (hb : Below W.heap.size W w) : Below W.heap.size W w' :=
  hb.trans ⟨h.1, h.2.1, h.2.2.1, h.2.2.2.1, fun k hk => h.2.2.2.2 k (Nat.lt_of_lt_of_le hk hb.size) (by rw [low k hk]; exact Ne.symm hc)⟩
theorem Mach.call (h : Mach W w P R Q S m R2 Q2 S2 m2) (k : Below w.heap.size w w') : Mach W w' P R Q S m R2 Q2 S2 m2 :=
  ⟨h.co.call k, h.ro.call k, h.me.call k, h.mr.call k, h.k1, h.k2, h.k3, h.k4, h.low, h.rq, h.rg, h.bel.trans (k.mono h.bel.size), h.hi, Nat.le_trans h.ll k.size⟩
theorem Mach.turn1 (h : Mach W w P R Q S m R2 Q2 S2 m2) (t : Turn P.col 1 w w') (hc : CoresAt w' P.b P.g P.n P.c R' Q' P.T S') : Mach W w' P R' Q' S' m R2 Q2 S2 m2 ∧ Keep0 P w w' := by
  have e := t.2.2.2.2
  have q2 := h.k2
  refine ⟨⟨hc, h.ro.of_blocks t.2.2.2.1 (e _ h.ro.lb (by rw [q2.1]; decide)) (e _ h.ro.lg (by rw [q2.2.1]; decide)) (fun i hi => e _ (h.ro.tlb i hi).lt (by rw [q2.2.2 i hi]; decide)), h.me.of_blocks t.2.2.2.1 (e _ h.me.lb (by rw [h.k3.1]; decide)) (e _ h.me.lg (by rw [h.k3.2]; decide)), h.mr.of_blocks t.2.2.2.1 (e _ h.mr.lb (by rw [h.k4.1]; decide)) (e _ h.mr.lg (by rw [h.k4.2]; decide)), h.k1, h.k2, h.k3, h.k4, h.low, h.rq, h.rg, t.bel (by decide) h.low h.bel, h.hi, Nat.le_trans h.ll t.2.2.2.1⟩, t.keep (by decide)⟩
theorem Mach.turn2 (h : Mach W w P R Q S m R2 Q2 S2 m2) (t : Turn P.col 2 w w') (hc : RCor w' P.rb P.rg P.n P.rc R' Q' P.RT S') (hq : ∀ i, i < P.n → RegOk (R' i) (Q' i)) (hg : ∀ i, i < P.n → Good (S' i)) : Mach W w' P R Q S m R' Q' S' m2 ∧ Keep0 P w w' := by
  have e := t.2.2.2.2
  have q2 := h.k1
  refine ⟨⟨h.co.of_blocks t.2.2.2.1 (e _ h.co.lb (by rw [q2.1]; decide)) (e _ h.co.lg (by rw [q2.2.1]; decide)) (fun i hi => e _ (h.co.tlb i hi).lt (by rw [q2.2.2 i hi]; decide)), hc, h.me.of_blocks t.2.2.2.1 (e _ h.me.lb (by rw [h.k3.1]; decide)) (e _ h.me.lg (by rw [h.k3.2]; decide)), h.mr.of_blocks t.2.2.2.1 (e _ h.mr.lb (by rw [h.k4.1]; decide)) (e _ h.mr.lg (by rw [h.k4.2]; decide)), h.k1, h.k2, h.k3, h.k4, h.low, hq, hg, t.bel (by decide) h.low h.bel, h.hi, Nat.le_trans h.ll t.2.2.2.1⟩, t.keep (by decide)⟩
theorem Mach.turn3 (h : Mach W w P R Q S m R2 Q2 S2 m2) (t : Turn P.col 3 w w') (hc : MemAt w' P.mb P.mg 8 P.mc m') : Mach W w' P R Q S m' R2 Q2 S2 m2 ∧ Keep0 P w w' := by
  have e := t.2.2.2.2
  have q1 := h.k1
  have q2 := h.k2
  refine ⟨⟨h.co.of_blocks t.2.2.2.1 (e _ h.co.lb (by rw [q1.1]; decide)) (e _ h.co.lg (by rw [q1.2.1]; decide)) (fun i hi => e _ (h.co.tlb i hi).lt (by rw [q1.2.2 i hi]; decide)), h.ro.of_blocks t.2.2.2.1 (e _ h.ro.lb (by rw [q2.1]; decide)) (e _ h.ro.lg (by rw [q2.2.1]; decide)) (fun i hi => e _ (h.ro.tlb i hi).lt (by rw [q2.2.2 i hi]; decide)), hc, h.mr.of_blocks t.2.2.2.1 (e _ h.mr.lb (by rw [h.k4.1]; decide)) (e _ h.mr.lg (by rw [h.k4.2]; decide)), h.k1, h.k2, h.k3, h.k4, h.low, h.rq, h.rg, t.bel (by decide) h.low h.bel, h.hi, Nat.le_trans h.ll t.2.2.2.1⟩, t.keep (by decide)⟩
theorem Mach.turn4 (h : Mach W w P R Q S m R2 Q2 S2 m2) (t : Turn P.col 4 w w') (hc : RefAt w' P.ub P.ug 8 P.uc m') : Mach W w' P R Q S m R2 Q2 S2 m' ∧ Keep0 P w w' := by
  have e := t.2.2.2.2
  have q1 := h.k1
  have q2 := h.k2
  refine ⟨⟨h.co.of_blocks t.2.2.2.1 (e _ h.co.lb (by rw [q1.1]; decide)) (e _ h.co.lg (by rw [q1.2.1]; decide)) (fun i hi => e _ (h.co.tlb i hi).lt (by rw [q1.2.2 i hi]; decide)), h.ro.of_blocks t.2.2.2.1 (e _ h.ro.lb (by rw [q2.1]; decide)) (e _ h.ro.lg (by rw [q2.2.1]; decide)) (fun i hi => e _ (h.ro.tlb i hi).lt (by rw [q2.2.2 i hi]; decide)), h.me.of_blocks t.2.2.2.1 (e _ h.me.lb (by rw [h.k3.1]; decide)) (e _ h.me.lg (by rw [h.k3.2]; decide)), hc, h.k1, h.k2, h.k3, h.k4, h.low, h.rq, h.rg, t.bel (by decide) h.low h.bel, h.hi, Nat.le_trans h.ll t.2.2.2.1⟩, t.keep (by decide)⟩
/-- Set. -/
def setRC (n : Nat) (R : Nat → Int) (k r s v : Int) : Nat → Int := if setC n k r s = 0 then setR R k.toNat v else R
theorem Mach.setA (h : Mach W w P R Q S m R2 Q2 S2 m2) (k r s : Int) :
    Calls Try.prog 19 #[.pointer (some ⟨P.b, 0, none⟩), .int .i64 k, .int .i64 r, .int .i64 s] w fun e w' => e = .returned (.int .i64 (setC P.n k r s)) ∧ Mach W w' P (setRC P.n R k r s r) (setRC P.n Q k r s s) S m R2 Q2 S2 m2 ∧ Keep0 P w w' := by
  unfold setRC
  by_cases h0 : setC P.n k r s = 0
  · obtain ⟨j, hj, rfl, hr⟩ := set_ok h0
    simp only [if_pos h0, Int.toNat_natCast]
    rw [h0]
    exact (cset_yes w P.b P.g P.n P.c j r s R Q P.T S h.co hj hr).mono fun e w' ⟨h1, h2, h3⟩ => ⟨h1, h.turn1 (.of_blk h3 h.k1.2.1) h2⟩
  · simp only [if_neg h0]
    exact (cset_no w P.b P.g P.n P.c k r s R Q P.T S h.co h0).mono fun e w' ⟨h1, h2⟩ => h2 ▸ ⟨h1, h, ⟨Nat.le_refl _, fun _ _ _ => rfl⟩⟩
theorem Mach.setB (h : Mach W w P R Q S m R2 Q2 S2 m2) (k r s : Int) :
    Calls Try.prog 33 #[.pointer (some ⟨P.rb, 0, none⟩), .int .i64 k, .int .i64 r, .int .i64 s] w fun e w' => e = .returned (.int .i64 (setC P.n k r s)) ∧ Mach W w' P R Q S m (setRC P.n R2 k r s r) (setRC P.n Q2 k r s s) S2 m2 ∧ Keep0 P w w' := by
  unfold setRC
  by_cases h0 : setC P.n k r s = 0
  · obtain ⟨j, hj, rfl, hr⟩ := set_ok h0
    simp only [if_pos h0, Int.toNat_natCast]
    rw [h0]
    exact (rset_yes w P.rb P.rg P.n P.rc j r s R2 Q2 P.RT S2 h.ro hj hr).mono fun e w' ⟨h1, h2, h3⟩ => ⟨h1, h.turn2 (.of_blk h3 h.k2.2.1) h2 (fun i hi => by
      unfold setR
      split
      · exact hr
      · exact h.rq i hi) h.rg⟩
  · simp only [if_neg h0]
    exact (rset_no w P.rb P.rg P.n P.rc k r s R2 Q2 P.RT S2 h.ro h0).mono fun e w' ⟨h1, h2⟩ => h2 ▸ ⟨h1, h, ⟨Nat.le_refl _, fun _ _ _ => rfl⟩⟩
theorem Mach.transA (h : Mach W w P R Q S m R2 Q2 S2 m2) (k p : Int) :
    Calls Try.prog 24 #[.pointer (some ⟨P.b, 0, none⟩), .int .i64 k, .pointer (some ⟨P.mb, 0, none⟩), .int .i64 p] w fun e w' => e = .returned (.tuple #[trX (transC P.n R Q S 8 m k p).1.1, .bool (transC P.n R Q S 8 m k p).1.2.1, .int .i64 (transC P.n R Q S 8 m k p).1.2.2]) ∧ Mach W w' P R Q (transC P.n R Q S 8 m k p).2 m R2 Q2 S2 m2 ∧ Keep0 P w w' :=
  (ctrans_any w P.b P.g P.n P.c R Q P.T S P.mb P.mg 8 P.mc m k p h.co h.me).mono fun e w' ⟨h1, h2, h3⟩ => ⟨h1, h.turn1 (.of_only h3 h.k1.2.2) h2⟩
theorem Mach.transB (h : Mach W w P R Q S m R2 Q2 S2 m2) (k p : Int) :
    Calls Try.prog 34 #[.pointer (some ⟨P.rb, 0, none⟩), .int .i64 k, .pointer (some ⟨P.ub, 0, none⟩), .int .i64 p] w fun e w' => e = .returned (.tuple #[trX (transC P.n R2 Q2 S2 8 m2 k p).1.1, .bool (transC P.n R2 Q2 S2 8 m2 k p).1.2.1, .int .i64 (transC P.n R2 Q2 S2 8 m2 k p).1.2.2]) ∧ Mach W w' P R Q S m R2 Q2 (transC P.n R2 Q2 S2 8 m2 k p).2 m2 ∧ Keep0 P w w' :=
  (rtrans_any w P.rb P.rg P.n P.rc R2 Q2 P.RT S2 P.ub P.ug 8 P.uc m2 k p h.ro h.rg h.rq h.mr).mono fun e w' ⟨h1, h2, h3⟩ => ⟨h1, h.turn2 (.of_only h3 h.k2.2.2) h2 h.rq (good_transC h.rg)⟩
theorem Mach.prefA (h : Mach W w P R Q S m R2 Q2 S2 m2) (k p : Int) :
    Calls Try.prog 22 #[.pointer (some ⟨P.b, 0, none⟩), .int .i64 k, .pointer (some ⟨P.mb, 0, none⟩), .int .i64 p] w fun e w' => e = .returned (.bool ((transC P.n R Q S 8 m k p).1.2.2 == 0 && !(transC P.n R Q S 8 m k p).1.2.1)) ∧ Mach W w' P R Q (transC P.n R Q S 8 m k p).2 m R2 Q2 S2 m2 ∧ Keep0 P w w' :=
  (cpref_any w P.b P.g P.n P.c R Q P.T S P.mb P.mg 8 P.mc m k p h.co h.me).mono fun e w' ⟨h1, h2, h3⟩ => ⟨h1, h.turn1 (.of_only h3 h.k1.2.2) h2⟩
theorem Mach.prefB (h : Mach W w P R Q S m R2 Q2 S2 m2) (k p : Int) :
    Calls Try.prog 35 #[.pointer (some ⟨P.rb, 0, none⟩), .int .i64 k, .pointer (some ⟨P.ub, 0, none⟩), .int .i64 p] w fun e w' => e = .returned (.bool ((transC P.n R2 Q2 S2 8 m2 k p).1.2.2 == 0 && !(transC P.n R2 Q2 S2 8 m2 k p).1.2.1)) ∧ Mach W w' P R Q S m R2 Q2 (transC P.n R2 Q2 S2 8 m2 k p).2 m2 ∧ Keep0 P w w' :=
  (rpref_any w P.rb P.rg P.n P.rc R2 Q2 P.RT S2 P.ub P.ug 8 P.uc m2 k p h.ro h.rg h.rq h.mr).mono fun e w' ⟨h1, h2, h3⟩ => ⟨h1, h.turn2 (.of_only h3 h.k2.2.2) h2 h.rq (good_transC h.rg)⟩
/-- Evict. -/
def evC (n : Nat) (S : Nat → TS) (k i j : Int) : (Nat → TS) × Bool := if hasC n k = true then (setT S k.toNat (evictS (S k.toNat) i j).1, (evictS (S k.toNat) i j).2) else (S, false)
theorem Mach.evA (h : Mach W w P R Q S m R2 Q2 S2 m2) (k i j : Int) :
    Calls Try.prog 23 #[.pointer (some ⟨P.b, 0, none⟩), .int .i64 k, .int .i64 i, .int .i64 j] w fun e w' => e = .returned (.bool (evC P.n S k i j).2) ∧ Mach W w' P R Q (evC P.n S k i j).1 m R2 Q2 S2 m2 ∧ Keep0 P w w' := by
  unfold evC
  by_cases h0 : hasC P.n k = true
  · obtain ⟨c, hc, rfl⟩ := has_nat h0
    simp only [if_pos h0, Int.toNat_natCast]
    exact (cevict_ok w P.b P.g P.n P.c c R Q P.T S i j h.co hc).mono fun e w' ⟨h1, h2, h3⟩ => ⟨h1, h.turn1 (.of_only (.of_tlb h3 hc) h.k1.2.2) h2⟩
  · simp only [if_neg h0]
    exact (cevict_bad w P.b P.g P.n P.c k i j R Q P.T S h.co h0).mono fun e w' ⟨h1, h2⟩ => h2 ▸ ⟨h1, h, ⟨Nat.le_refl _, fun _ _ _ => rfl⟩⟩
theorem Mach.evB (h : Mach W w P R Q S m R2 Q2 S2 m2) (k : Nat) (i j : Int) (hk : k < P.n) :
    Calls Try.prog 37 #[.pointer (some ⟨P.RT k, 0, none⟩), .int .i64 i, .int .i64 j] w fun e w' => e = .returned (.bool (evictS (S2 k) i j).2) ∧ Mach W w' P R Q S m R2 Q2 (setT S2 k (evictS (S2 k) i j).1) m2 ∧ Keep0 P w w' :=
  (refEvict_any w (P.RT k) (S2 k) i j (h.ro.tlb k hk) (Good.ok (h.rg k hk))).mono fun e w' ⟨h1, h2, h3⟩ => ⟨h1, h.turn2 (.of_only (.of_tlb h3 hk) h.k2.2.2) (h.ro.put hk h2 h3) h.rq (good_setT h.rg (good_evict (h.rg k hk) i j))⟩
theorem Mach.hasB (h : Mach W w P R Q S m R2 Q2 S2 m2) (k : Int) :
    Calls Try.prog 36 #[.pointer (some ⟨P.rb, 0, none⟩), .int .i64 k] w fun e w' => e = .returned (.bool (hasC P.n k)) ∧ w = w' := rhas_any w P.rb P.rg P.n P.rc k R2 Q2 P.RT S2 h.ro
/-- Drops. -/
theorem Mach.dpA (h : Mach W w P R Q S m R2 Q2 S2 m2) (a p : Int) :
    Calls Try.prog 21 #[.pointer (some ⟨P.b, 0, none⟩), .int .i64 a, .int .i64 p] w fun e w' => e = .returned (.int .i64 ((dropL S (pageOut a p) (frs P.n P.n)).2 : Nat)) ∧ Mach W w' P R Q (dropL S (pageOut a p) (frs P.n P.n)).1 m R2 Q2 S2 m2 ∧ Keep0 P w w' :=
  (callsIn_wide.1 (cdropP_in w P.b P.g P.n P.c R Q P.T S a p h.co)).mono fun e w' ⟨h1, h2, h3⟩ => ⟨h1, h.turn1 (.of_only h3 h.k1.2.2) h2⟩
theorem Mach.dsA (h : Mach W w P R Q S m R2 Q2 S2 m2) (a : Int) :
    Calls Try.prog 27 #[.pointer (some ⟨P.b, 0, none⟩), .int .i64 a] w fun e w' => e = .returned (.int .i64 ((dropL S (spaceOut a) (frs P.n P.n)).2 : Nat)) ∧ Mach W w' P R Q (dropL S (spaceOut a) (frs P.n P.n)).1 m R2 Q2 S2 m2 ∧ Keep0 P w w' :=
  (callsIn_wide.1 (cdropS_in w P.b P.g P.n P.c R Q P.T S a h.co)).mono fun e w' ⟨h1, h2, h3⟩ => ⟨h1, h.turn1 (.of_only h3 h.k1.2.2) h2⟩
theorem Mach.dB (h : Mach W w P R Q S m R2 Q2 S2 m2) (a p : Int) :
    Calls Try.prog 38 #[.pointer (some ⟨P.rb, 0, none⟩), .int .i64 a, .int .i64 p] w fun e w' => e = .returned (.int .i64 ((dropL S2 (outR a p false) (frs P.n P.n)).2 : Nat)) ∧ Mach W w' P R Q S m R2 Q2 (dropL S2 (outR a p false) (frs P.n P.n)).1 m2 ∧ Keep0 P w w' :=
  (rcdrop_any w P.rb P.rg P.n P.rc R2 Q2 P.RT S2 a p h.ro h.rg).mono fun e w' ⟨h1, h2, h3⟩ => ⟨h1, h.turn2 (.of_only h3 h.k2.2.2) h2 h.rq (good_dropL _ h.rg P.n (Nat.le_refl _))⟩
theorem Mach.stA (h : Mach W w P R Q S m R2 Q2 S2 m2) (a v : Int) (ha : WordI a) (hv : WordI v) :
    Calls Try.prog 15 #[.pointer (some ⟨P.mb, 0, none⟩), .int .u64 a, .int .u64 v] w fun e w' => e = .returned (.int .i64 (wrongF 8 a)) ∧ Mach W w' P R Q S (storeF 8 m a v) R2 Q2 S2 m2 ∧ Keep0 P w w' :=
  (store_gen w P.mb P.mg 8 P.mc m a v h.me ha hv).mono fun e w' ⟨h1, h2, h3⟩ => ⟨h1, h.turn3 (.of_blk h3 h.k3.2) h2⟩
theorem Mach.stB (h : Mach W w P R Q S m R2 Q2 S2 m2) (a v : Int) (ha : WordI a) (hv : WordI v) :
    Calls Try.prog 16 #[.pointer (some ⟨P.ub, 0, none⟩), .int .u64 a, .int .u64 v] w fun e w' => e = .returned (.int .i64 (wrongF 8 a)) ∧ Mach W w' P R Q S m R2 Q2 S2 (storeF 8 m2 a v) ∧ Keep0 P w w' :=
  (rstore_gen w P.ub P.ug 8 P.uc m2 a v h.mr ha hv).mono fun e w' ⟨h1, h2, h3⟩ => ⟨h1, h.turn4 (.of_blk h3 h.k4.2) h2⟩
end
/-- Both at one state. -/
def Even (W w : World) (P : Pl) : Prop := ∃ R Q S m, Mach W w P R Q S m R Q S m
theorem Even.alike {W w : World} {P : Pl} (h : Even W w P) :
    Calls Try.prog 18 #[.pointer (some ⟨P.b, 0, none⟩), .pointer (some ⟨P.rb, 0, none⟩)] w fun e w' => e = .returned (.bool true) ∧ Below w.heap.size w w' := by
  obtain ⟨R, Q, S, m, h⟩ := h
  exact alike_any w P.b P.g P.n P.c P.rb P.rg P.rc R Q P.T P.RT S h.co h.ro
theorem Even.call {W w w' : World} {P : Pl} (h : Even W w P) (k : Below w.heap.size w w') : Even W w' P := by
  obtain ⟨R, Q, S, m, h⟩ := h
  exact ⟨R, Q, S, m, h.call k⟩
end
/- chapter 7: an act of both. -/
section
set_option linter.unusedVariables false
set_option linter.unusedSimpArgs false
open Go.ChangeShapes Go.WideShapes Go.ChangeAt Go.RowKit Go.Shelf
abbrev actV (d co ro sp pg st wy ad v : Int) : Value := .agg #[.int .i64 d, .int .i64 co, .int .i64 ro, .int .i64 sp, .int .i64 pg, .int .i64 st, .int .i64 wy, .int .u64 ad, .int .u64 v]
/-- A boxed act. -/
def XC (w' : World) (xB : Nat) (d co ro sp pg st wy ad v : Int) : Prop := w'.cell? ⟨xB, 0, none⟩ = some (.int .i64 d) ∧ w'.cell? ⟨xB, 1, none⟩ = some (.int .i64 co) ∧ w'.cell? ⟨xB, 2, none⟩ = some (.int .i64 ro) ∧ w'.cell? ⟨xB, 3, none⟩ = some (.int .i64 sp) ∧ w'.cell? ⟨xB, 4, none⟩ = some (.int .i64 pg) ∧ w'.cell? ⟨xB, 5, none⟩ = some (.int .i64 st) ∧ w'.cell? ⟨xB, 6, none⟩ = some (.int .i64 wy) ∧ w'.cell? ⟨xB, 7, none⟩ = some (.int .u64 ad) ∧ w'.cell? ⟨xB, 8, none⟩ = some (.int .u64 v)
theorem XC.of_block {w w' : World} {xB : Nat} {d co ro sp pg st wy ad v : Int} (h : XC w xB d co ro sp pg st wy ad v) (e : w'.heap[xB]? = w.heap[xB]?) : XC w' xB d co ro sp pg st wy ad v := by
  obtain ⟨h0, h1, h2, h3, h4, h5, h6, h7, h8⟩ := h
  exact ⟨(cell_of_block e).trans h0, (cell_of_block e).trans h1, (cell_of_block e).trans h2, (cell_of_block e).trans h3, (cell_of_block e).trans h4, (cell_of_block e).trans h5, (cell_of_block e).trans h6, (cell_of_block e).trans h7, (cell_of_block e).trans h8⟩
theorem XC.lt {w : World} {xB : Nat} {d co ro sp pg st wy ad v : Int} (h : XC w xB d co ro sp pg st wy ad v) : xB < w.heap.size := by
  have h0 := h.1
  unfold World.cell? at h0
  cases e : w.heap[xB]? with
  | none => simp [e] at h0
  | some o => exact (Array.getElem?_eq_some_iff.1 e).1
theorem xc_new (w : World) (d co ro sp pg st wy ad v : Int) (T : TypeId) : XC (w.alloc (.cells #[.int .i64 d, .int .i64 co, .int .i64 ro, .int .i64 sp, .int .i64 pg, .int .i64 st, .int .i64 wy, .int .u64 ad, .int .u64 v] T)) w.heap.size d co ro sp pg st wy ad v := by
  refine ⟨?_, ?_, ?_, ?_, ?_, ?_, ?_, ?_, ?_⟩ <;> simp [go_sem]
theorem num_i (n : Int) (w : World) : Calls Try.prog 14 #[.int .i64 n] w fun e w' => e = .returned (.int .i64 n) ∧ w = w' := by
  go_enter Try.func14, Try.ntmps14
  go_wp2
  go_ret
  exact ⟨rfl, rfl⟩
set_option maxRecDepth 100000 in
set_option maxHeartbeats 4000000 in
theorem done_set (W w : World) (P : Pl) (co ro sp pg st wy ad v : Int) (h : Even W w P) :
    Calls Try.prog 17 #[.pointer (some ⟨P.b, 0, none⟩), .pointer (some ⟨P.rb, 0, none⟩), .pointer (some ⟨P.mb, 0, none⟩), .pointer (some ⟨P.ub, 0, none⟩), actV 0 co ro sp pg st wy ad v] w fun e w' => e = .returned (.bool true) ∧ Even W w' P := by
  obtain ⟨R, Q, S, m, h⟩ := h
  have hb : Below w.heap.size w (w.alloc (.cells #[.int .i64 0, .int .i64 co, .int .i64 ro, .int .i64 sp, .int .i64 pg, .int .i64 st, .int .i64 wy, .int .u64 ad, .int .u64 v] 44)) := bal (Below.refl _ _) _
  have HM := Lib.hid (h.call hb)
  have HX := Lib.hid (xc_new w 0 co ro sp pg st wy ad v 44)
  have HX0 : Hid (P.col w.heap.size = 0) := Lib.hid (h.hi _ h.ll)
  have hxl : w.heap.size < (w.alloc (.cells #[.int .i64 0, .int .i64 co, .int .i64 ro, .int .i64 sp, .int .i64 pg, .int .i64 st, .int .i64 wy, .int .u64 ad, .int .u64 v] 44)).heap.size := by simp
  have HXL := Lib.hid hxl
  clear h hb hxl
  go_enter Try.func17, Try.ntmps17
  go_upto_region 1 with fail
  obtain ⟨w1, hw1⟩ : ∃ z, z = w.alloc (.cells #[.int .i64 0, .int .i64 co, .int .i64 ro, .int .i64 sp, .int .i64 pg, .int .i64 st, .int .i64 wy, .int .u64 ad, .int .u64 v] 44) := ⟨_, rfl⟩
  rw [← hw1] at HM HX HXL ⊢
  clear hw1
  generalize w.heap.size = xB at *
  obtain ⟨z0, -⟩ := HX.out
  go_upto_region 3 with fail
  clear z0
  have HMd := Lib.hid (HM.out.call (Below.refl _ _).drew)
  have HX : Hid (XC w1.drew xB 0 co ro sp pg st wy ad v) := Lib.hid (show XC w1.drew xB 0 co ro sp pg st wy ad v from HX.out)
  have HXL : Hid (xB < w1.drew.heap.size) := HXL
  go_region_held3 (fun w' => w'.cell? ⟨xB, 0, none⟩ = some (.int .i64 0) ∧ w'.cell? ⟨xB, 1, none⟩ = some (.int .i64 co) ∧ w'.cell? ⟨xB, 2, none⟩ = some (.int .i64 ro) ∧ w'.cell? ⟨xB, 3, none⟩ = some (.int .i64 sp) ∧ w'.cell? ⟨xB, 4, none⟩ = some (.int .i64 pg) ∧ w'.cell? ⟨xB, 5, none⟩ = some (.int .i64 st) ∧ w'.cell? ⟨xB, 6, none⟩ = some (.int .i64 wy) ∧ w'.cell? ⟨xB, 7, none⟩ = some (.int .u64 ad) ∧ w'.cell? ⟨xB, 8, none⟩ = some (.int .u64 v))
    (exact HX.out)
    (first
      | (go_at_call 14; (with_reducible refine (num_i _ _).mono ?_); rintro e w5 ⟨rfl, rfl⟩)
      | (go_at_call 33; (with_reducible refine (HM2.out.setB co ro sp).mono ?_); rintro e w3 ⟨rfl, hm, hk⟩; have HM3 := Lib.hid hm; have HX : Hid (XC _ xB 0 co ro sp pg st wy ad v) := Lib.hid (HX.out.of_block (hk.blk xB HXL.out HX0.out)); have HXL : Hid (xB < _) := Lib.hid (HX.out.lt); clear hm hk)
      | (go_at_call 19; (with_reducible refine (HMd.out.setA co ro sp).mono ?_); rintro e w3 ⟨rfl, hm, hk⟩; have HM2 := Lib.hid hm; have HX : Hid (XC _ xB 0 co ro sp pg st wy ad v) := Lib.hid (HX.out.of_block (hk.blk xB HXL.out HX0.out)); have HXL : Hid (xB < _) := Lib.hid (HX.out.lt); clear hm hk))
  all_goals
    go_wp2
    go_ret
    exact ⟨by first | rfl | simp, _, _, _, _, HM3.out⟩
set_option maxRecDepth 100000 in
set_option maxHeartbeats 4000000 in
theorem done_pref (W w : World) (P : Pl) (co ro sp pg st wy ad v : Int) (h : Even W w P) :
    Calls Try.prog 17 #[.pointer (some ⟨P.b, 0, none⟩), .pointer (some ⟨P.rb, 0, none⟩), .pointer (some ⟨P.mb, 0, none⟩), .pointer (some ⟨P.ub, 0, none⟩), actV 2 co ro sp pg st wy ad v] w fun e w' => e = .returned (.bool true) ∧ Even W w' P := by
  obtain ⟨R, Q, S, m, h⟩ := h
  have hb : Below w.heap.size w (w.alloc (.cells #[.int .i64 2, .int .i64 co, .int .i64 ro, .int .i64 sp, .int .i64 pg, .int .i64 st, .int .i64 wy, .int .u64 ad, .int .u64 v] 44)) := bal (Below.refl _ _) _
  have HM := Lib.hid (h.call hb)
  have HX := Lib.hid (xc_new w 2 co ro sp pg st wy ad v 44)
  have HX0 : Hid (P.col w.heap.size = 0) := Lib.hid (h.hi _ h.ll)
  have hxl : w.heap.size < (w.alloc (.cells #[.int .i64 2, .int .i64 co, .int .i64 ro, .int .i64 sp, .int .i64 pg, .int .i64 st, .int .i64 wy, .int .u64 ad, .int .u64 v] 44)).heap.size := by simp
  have HXL := Lib.hid hxl
  clear h hb hxl
  go_enter Try.func17, Try.ntmps17
  go_upto_region 1 with fail
  obtain ⟨w1, hw1⟩ : ∃ z, z = w.alloc (.cells #[.int .i64 2, .int .i64 co, .int .i64 ro, .int .i64 sp, .int .i64 pg, .int .i64 st, .int .i64 wy, .int .u64 ad, .int .u64 v] 44) := ⟨_, rfl⟩
  rw [← hw1] at HM HX HXL ⊢
  clear hw1
  generalize w.heap.size = xB at *
  obtain ⟨bz, hbz⟩ : ∃ z, ((transC P.n R Q S 8 m co pg).1.2.2 == 0 && !(transC P.n R Q S 8 m co pg).1.2.1) = z := ⟨_, rfl⟩
  have HB := Lib.hid hbz
  clear hbz
  obtain ⟨z0, -⟩ := HX.out
  go_upto_region 9 with fail
  clear z0
  have HMd := Lib.hid (HM.out.call (Below.refl _ _).drew)
  have HX : Hid (XC w1.drew xB 2 co ro sp pg st wy ad v) := Lib.hid (show XC w1.drew xB 2 co ro sp pg st wy ad v from HX.out)
  have HXL : Hid (xB < w1.drew.heap.size) := HXL
  go_region_held3 (fun w' => w'.cell? ⟨xB, 0, none⟩ = some (.int .i64 2) ∧ w'.cell? ⟨xB, 1, none⟩ = some (.int .i64 co) ∧ w'.cell? ⟨xB, 2, none⟩ = some (.int .i64 ro) ∧ w'.cell? ⟨xB, 3, none⟩ = some (.int .i64 sp) ∧ w'.cell? ⟨xB, 4, none⟩ = some (.int .i64 pg) ∧ w'.cell? ⟨xB, 5, none⟩ = some (.int .i64 st) ∧ w'.cell? ⟨xB, 6, none⟩ = some (.int .i64 wy) ∧ w'.cell? ⟨xB, 7, none⟩ = some (.int .u64 ad) ∧ w'.cell? ⟨xB, 8, none⟩ = some (.int .u64 v))
    (exact HX.out)
    (first
      | (go_at_call 35; (with_reducible refine (HM2.out.prefB co pg).mono ?_); rw [HB.out]; rintro e w3 ⟨rfl, hm, hk⟩; have HM3 := Lib.hid hm; have HX : Hid (XC _ xB 2 co ro sp pg st wy ad v) := Lib.hid (HX.out.of_block (hk.blk xB HXL.out HX0.out)); have HXL : Hid (xB < _) := Lib.hid (HX.out.lt); clear hm hk)
      | (go_at_call 22; (with_reducible refine (HMd.out.prefA co pg).mono ?_); rw [HB.out]; rintro e w3 ⟨rfl, hm, hk⟩; have HM2 := Lib.hid hm; have HX : Hid (XC _ xB 2 co ro sp pg st wy ad v) := Lib.hid (HX.out.of_block (hk.blk xB HXL.out HX0.out)); have HXL : Hid (xB < _) := Lib.hid (HX.out.lt); clear hm hk))
  all_goals
    go_wp2
    go_ret
    exact ⟨by first | rfl | simp, _, _, _, _, HM3.out⟩
set_option maxRecDepth 100000 in
set_option maxHeartbeats 4000000 in
theorem done_space (W w : World) (P : Pl) (co ro sp pg st wy ad v : Int) (h : Even W w P) :
    Calls Try.prog 17 #[.pointer (some ⟨P.b, 0, none⟩), .pointer (some ⟨P.rb, 0, none⟩), .pointer (some ⟨P.mb, 0, none⟩), .pointer (some ⟨P.ub, 0, none⟩), actV 5 co ro sp pg st wy ad v] w fun e w' => e = .returned (.bool true) ∧ Even W w' P := by
  obtain ⟨R, Q, S, m, h⟩ := h
  have hb : Below w.heap.size w (w.alloc (.cells #[.int .i64 5, .int .i64 co, .int .i64 ro, .int .i64 sp, .int .i64 pg, .int .i64 st, .int .i64 wy, .int .u64 ad, .int .u64 v] 44)) := bal (Below.refl _ _) _
  have HM := Lib.hid (h.call hb)
  have HX := Lib.hid (xc_new w 5 co ro sp pg st wy ad v 44)
  have HX0 : Hid (P.col w.heap.size = 0) := Lib.hid (h.hi _ h.ll)
  have hxl : w.heap.size < (w.alloc (.cells #[.int .i64 5, .int .i64 co, .int .i64 ro, .int .i64 sp, .int .i64 pg, .int .i64 st, .int .i64 wy, .int .u64 ad, .int .u64 v] 44)).heap.size := by simp
  have HXL := Lib.hid hxl
  clear h hb hxl
  go_enter Try.func17, Try.ntmps17
  go_upto_region 1 with fail
  obtain ⟨w1, hw1⟩ : ∃ z, z = w.alloc (.cells #[.int .i64 5, .int .i64 co, .int .i64 ro, .int .i64 sp, .int .i64 pg, .int .i64 st, .int .i64 wy, .int .u64 ad, .int .u64 v] 44) := ⟨_, rfl⟩
  rw [← hw1] at HM HX HXL ⊢
  clear hw1
  generalize w.heap.size = xB at *
  obtain ⟨z0, -⟩ := HX.out
  go_upto_region 15 with fail
  clear z0
  have HMd := Lib.hid (HM.out.call (Below.refl _ _).drew)
  have HX : Hid (XC w1.drew xB 5 co ro sp pg st wy ad v) := Lib.hid (show XC w1.drew xB 5 co ro sp pg st wy ad v from HX.out)
  have HXL : Hid (xB < w1.drew.heap.size) := HXL
  go_region_held3 (fun w' => w'.cell? ⟨xB, 0, none⟩ = some (.int .i64 5) ∧ w'.cell? ⟨xB, 1, none⟩ = some (.int .i64 co) ∧ w'.cell? ⟨xB, 2, none⟩ = some (.int .i64 ro) ∧ w'.cell? ⟨xB, 3, none⟩ = some (.int .i64 sp) ∧ w'.cell? ⟨xB, 4, none⟩ = some (.int .i64 pg) ∧ w'.cell? ⟨xB, 5, none⟩ = some (.int .i64 st) ∧ w'.cell? ⟨xB, 6, none⟩ = some (.int .i64 wy) ∧ w'.cell? ⟨xB, 7, none⟩ = some (.int .u64 ad) ∧ w'.cell? ⟨xB, 8, none⟩ = some (.int .u64 v))
    (exact HX.out)
    (first
      | (go_at_call 38; (with_reducible refine (HM2.out.dB sp (-1)).mono ?_); rw [out_space]; rintro e w3 ⟨rfl, hm, hk⟩; have HM3 := Lib.hid hm; have HX : Hid (XC _ xB 5 co ro sp pg st wy ad v) := Lib.hid (HX.out.of_block (hk.blk xB HXL.out HX0.out)); have HXL : Hid (xB < _) := Lib.hid (HX.out.lt); clear hm hk)
      | (go_at_call 27; (with_reducible refine (HMd.out.dsA sp).mono ?_); rintro e w3 ⟨rfl, hm, hk⟩; have HM2 := Lib.hid hm; have HX : Hid (XC _ xB 5 co ro sp pg st wy ad v) := Lib.hid (HX.out.of_block (hk.blk xB HXL.out HX0.out)); have HXL : Hid (xB < _) := Lib.hid (HX.out.lt); clear hm hk))
  all_goals
    go_wp2
    go_ret
    exact ⟨by first | rfl | simp, _, _, _, _, HM3.out⟩
set_option maxRecDepth 100000 in
set_option maxHeartbeats 4000000 in
theorem done_store (W w : World) (P : Pl) (co ro sp pg st wy ad v : Int) (h : Even W w P) (hwa : WordI ad) (hwv : WordI v) :
    Calls Try.prog 17 #[.pointer (some ⟨P.b, 0, none⟩), .pointer (some ⟨P.rb, 0, none⟩), .pointer (some ⟨P.mb, 0, none⟩), .pointer (some ⟨P.ub, 0, none⟩), actV 6 co ro sp pg st wy ad v] w fun e w' => e = .returned (.bool true) ∧ Even W w' P := by
  obtain ⟨R, Q, S, m, h⟩ := h
  have hb : Below w.heap.size w (w.alloc (.cells #[.int .i64 6, .int .i64 co, .int .i64 ro, .int .i64 sp, .int .i64 pg, .int .i64 st, .int .i64 wy, .int .u64 ad, .int .u64 v] 44)) := bal (Below.refl _ _) _
  have HM := Lib.hid (h.call hb)
  have HX := Lib.hid (xc_new w 6 co ro sp pg st wy ad v 44)
  have HX0 : Hid (P.col w.heap.size = 0) := Lib.hid (h.hi _ h.ll)
  have hxl : w.heap.size < (w.alloc (.cells #[.int .i64 6, .int .i64 co, .int .i64 ro, .int .i64 sp, .int .i64 pg, .int .i64 st, .int .i64 wy, .int .u64 ad, .int .u64 v] 44)).heap.size := by simp
  have HXL := Lib.hid hxl
  clear h hb hxl
  go_enter Try.func17, Try.ntmps17
  go_upto_region 1 with fail
  obtain ⟨w1, hw1⟩ : ∃ z, z = w.alloc (.cells #[.int .i64 6, .int .i64 co, .int .i64 ro, .int .i64 sp, .int .i64 pg, .int .i64 st, .int .i64 wy, .int .u64 ad, .int .u64 v] 44) := ⟨_, rfl⟩
  rw [← hw1] at HM HX HXL ⊢
  clear hw1
  generalize w.heap.size = xB at *
  have HWA := Lib.hid hwa
  have HWV := Lib.hid hwv
  clear hwa hwv
  obtain ⟨z0, -⟩ := HX.out
  go_upto_region 17 with fail
  clear z0
  have HMd := Lib.hid (HM.out.call (Below.refl _ _).drew)
  have HX : Hid (XC w1.drew xB 6 co ro sp pg st wy ad v) := Lib.hid (show XC w1.drew xB 6 co ro sp pg st wy ad v from HX.out)
  have HXL : Hid (xB < w1.drew.heap.size) := HXL
  go_region_held3 (fun w' => w'.cell? ⟨xB, 0, none⟩ = some (.int .i64 6) ∧ w'.cell? ⟨xB, 1, none⟩ = some (.int .i64 co) ∧ w'.cell? ⟨xB, 2, none⟩ = some (.int .i64 ro) ∧ w'.cell? ⟨xB, 3, none⟩ = some (.int .i64 sp) ∧ w'.cell? ⟨xB, 4, none⟩ = some (.int .i64 pg) ∧ w'.cell? ⟨xB, 5, none⟩ = some (.int .i64 st) ∧ w'.cell? ⟨xB, 6, none⟩ = some (.int .i64 wy) ∧ w'.cell? ⟨xB, 7, none⟩ = some (.int .u64 ad) ∧ w'.cell? ⟨xB, 8, none⟩ = some (.int .u64 v))
    (exact HX.out)
    (first
      | (go_at_call 14; (with_reducible refine (num_i _ _).mono ?_); rintro e w5 ⟨rfl, rfl⟩)
      | (go_at_call 16; (with_reducible refine (HM2.out.stB ad v HWA.out HWV.out).mono ?_); rintro e w3 ⟨rfl, hm, hk⟩; have HM3 := Lib.hid hm; have HX : Hid (XC _ xB 6 co ro sp pg st wy ad v) := Lib.hid (HX.out.of_block (hk.blk xB HXL.out HX0.out)); have HXL : Hid (xB < _) := Lib.hid (HX.out.lt); clear hm hk)
      | (go_at_call 15; (with_reducible refine (HMd.out.stA ad v HWA.out HWV.out).mono ?_); rintro e w3 ⟨rfl, hm, hk⟩; have HM2 := Lib.hid hm; have HX : Hid (XC _ xB 6 co ro sp pg st wy ad v) := Lib.hid (HX.out.of_block (hk.blk xB HXL.out HX0.out)); have HXL : Hid (xB < _) := Lib.hid (HX.out.lt); clear hm hk))
  all_goals
    go_wp2
    go_ret
    exact ⟨by first | rfl | simp, _, _, _, _, HM3.out⟩
set_option maxRecDepth 100000 in
set_option maxHeartbeats 4000000 in
theorem done_page (W w : World) (P : Pl) (co ro sp pg st wy ad v : Int) (h : Even W w P) (hpg : pg ≠ -1) :
    Calls Try.prog 17 #[.pointer (some ⟨P.b, 0, none⟩), .pointer (some ⟨P.rb, 0, none⟩), .pointer (some ⟨P.mb, 0, none⟩), .pointer (some ⟨P.ub, 0, none⟩), actV 4 co ro sp pg st wy ad v] w fun e w' => e = .returned (.bool true) ∧ Even W w' P := by
  obtain ⟨R, Q, S, m, h⟩ := h
  have hb : Below w.heap.size w (w.alloc (.cells #[.int .i64 4, .int .i64 co, .int .i64 ro, .int .i64 sp, .int .i64 pg, .int .i64 st, .int .i64 wy, .int .u64 ad, .int .u64 v] 44)) := bal (Below.refl _ _) _
  have HM := Lib.hid (h.call hb)
  have HX := Lib.hid (xc_new w 4 co ro sp pg st wy ad v 44)
  have HX0 : Hid (P.col w.heap.size = 0) := Lib.hid (h.hi _ h.ll)
  have hxl : w.heap.size < (w.alloc (.cells #[.int .i64 4, .int .i64 co, .int .i64 ro, .int .i64 sp, .int .i64 pg, .int .i64 st, .int .i64 wy, .int .u64 ad, .int .u64 v] 44)).heap.size := by simp
  have HXL := Lib.hid hxl
  clear h hb hxl
  go_enter Try.func17, Try.ntmps17
  go_upto_region 1 with fail
  obtain ⟨w1, hw1⟩ : ∃ z, z = w.alloc (.cells #[.int .i64 4, .int .i64 co, .int .i64 ro, .int .i64 sp, .int .i64 pg, .int .i64 st, .int .i64 wy, .int .u64 ad, .int .u64 v] 44) := ⟨_, rfl⟩
  rw [← hw1] at HM HX HXL ⊢
  clear hw1
  generalize w.heap.size = xB at *
  have hpg2 : (pg == -1) = false := beq_eq_false_iff_ne.2 hpg
  have hpg3 : decide (pg = -1) = false := decide_eq_false hpg
  have HPG := Lib.hid hpg2
  obtain ⟨z0, -⟩ := HX.out
  go_upto_region 13 with fail
  clear z0
  have HMd := Lib.hid (HM.out.call (Below.refl _ _).drew)
  have HX : Hid (XC w1.drew xB 4 co ro sp pg st wy ad v) := Lib.hid (show XC w1.drew xB 4 co ro sp pg st wy ad v from HX.out)
  have HXL : Hid (xB < w1.drew.heap.size) := HXL
  go_region_held3 (fun w' => w'.cell? ⟨xB, 0, none⟩ = some (.int .i64 4) ∧ w'.cell? ⟨xB, 1, none⟩ = some (.int .i64 co) ∧ w'.cell? ⟨xB, 2, none⟩ = some (.int .i64 ro) ∧ w'.cell? ⟨xB, 3, none⟩ = some (.int .i64 sp) ∧ w'.cell? ⟨xB, 4, none⟩ = some (.int .i64 pg) ∧ w'.cell? ⟨xB, 5, none⟩ = some (.int .i64 st) ∧ w'.cell? ⟨xB, 6, none⟩ = some (.int .i64 wy) ∧ w'.cell? ⟨xB, 7, none⟩ = some (.int .u64 ad) ∧ w'.cell? ⟨xB, 8, none⟩ = some (.int .u64 v))
    (exact HX.out)
    (first
      | (go_at_call 38; (with_reducible refine (HM2.out.dB sp pg).mono ?_); rw [out_page HPG.out]; rintro e w3 ⟨rfl, hm, hk⟩; have HM3 := Lib.hid hm; have HX : Hid (XC _ xB 4 co ro sp pg st wy ad v) := Lib.hid (HX.out.of_block (hk.blk xB HXL.out HX0.out)); have HXL : Hid (xB < _) := Lib.hid (HX.out.lt); clear hm hk)
      | (go_at_call 21; (with_reducible refine (HMd.out.dpA sp pg).mono ?_); rintro e w3 ⟨rfl, hm, hk⟩; have HM2 := Lib.hid hm; have HX : Hid (XC _ xB 4 co ro sp pg st wy ad v) := Lib.hid (HX.out.of_block (hk.blk xB HXL.out HX0.out)); have HXL : Hid (xB < _) := Lib.hid (HX.out.lt); clear hm hk))
  all_goals
    go_wp2
    go_ret
    exact ⟨by first | rfl | simp, _, _, _, _, HM3.out⟩
set_option maxRecDepth 100000 in
set_option maxHeartbeats 4000000 in
theorem done_page0 (W w : World) (P : Pl) (co ro sp st wy ad v : Int) (h : Even W w P) :
    Calls Try.prog 17 #[.pointer (some ⟨P.b, 0, none⟩), .pointer (some ⟨P.rb, 0, none⟩), .pointer (some ⟨P.mb, 0, none⟩), .pointer (some ⟨P.ub, 0, none⟩), actV 4 co ro sp (-1) st wy ad v] w fun e w' => e = .returned (.bool true) ∧ Even W w' P := by
  obtain ⟨R, Q, S, m, h⟩ := h
  have hb : Below w.heap.size w (w.alloc (.cells #[.int .i64 4, .int .i64 co, .int .i64 ro, .int .i64 sp, .int .i64 (-1), .int .i64 st, .int .i64 wy, .int .u64 ad, .int .u64 v] 44)) := bal (Below.refl _ _) _
  have HM := Lib.hid (h.call hb)
  have HX := Lib.hid (xc_new w 4 co ro sp (-1) st wy ad v 44)
  have HX0 : Hid (P.col w.heap.size = 0) := Lib.hid (h.hi _ h.ll)
  have hxl : w.heap.size < (w.alloc (.cells #[.int .i64 4, .int .i64 co, .int .i64 ro, .int .i64 sp, .int .i64 (-1), .int .i64 st, .int .i64 wy, .int .u64 ad, .int .u64 v] 44)).heap.size := by simp
  have HXL := Lib.hid hxl
  clear h hb hxl
  go_enter Try.func17, Try.ntmps17
  go_upto_region 1 with fail
  obtain ⟨w1, hw1⟩ : ∃ z, z = w.alloc (.cells #[.int .i64 4, .int .i64 co, .int .i64 ro, .int .i64 sp, .int .i64 (-1), .int .i64 st, .int .i64 wy, .int .u64 ad, .int .u64 v] 44) := ⟨_, rfl⟩
  rw [← hw1] at HM HX HXL ⊢
  clear hw1
  generalize w.heap.size = xB at *
  obtain ⟨z0, -, -, -, z4, -⟩ := HX.out
  go_upto_region 13 with fail
  go_quiet (fail)
  go_wp2
  go_ret
  exact ⟨by first | rfl | simp, _, _, _, _, HM.out.call (below_drewN (Below.refl _ _) _)⟩
theorem XC.c1 {w : World} {xB : Nat} {d co ro sp pg st wy ad v : Int} (h : XC w xB d co ro sp pg st wy ad v) : w.cell? ⟨xB, 1, none⟩ = some (.int .i64 co) := h.2.1
theorem Mach.rows {W w : World} {P : Pl} {R Q R2 Q2 : Nat → Int} {S S2 : Nat → TS} {m m2 : Nat → Int} (h : Mach W w P R Q S m R2 Q2 S2 m2) {k : Nat} (hk : k < P.n) : w.cell? ⟨P.rb, 0, none⟩ = some (.slice (some ⟨P.rg, 0, none⟩) P.n P.rc) ∧ w.cell? ⟨P.rg, k * 3 + 2, none⟩ = some (.pointer (some ⟨P.RT k, 0, none⟩)) := ⟨h.ro.hd, (h.ro.row k hk).2.2⟩
set_option maxRecDepth 100000 in
set_option maxHeartbeats 4000000 in
theorem done_ev (W w : World) (P : Pl) (ro sp pg st wy ad v : Int) (ki : Nat) (h : Even W w P) (hki : ki < P.n) :
    Calls Try.prog 17 #[.pointer (some ⟨P.b, 0, none⟩), .pointer (some ⟨P.rb, 0, none⟩), .pointer (some ⟨P.mb, 0, none⟩), .pointer (some ⟨P.ub, 0, none⟩), actV 3 (ki : Int) ro sp pg st wy ad v] w fun e w' => e = .returned (.bool true) ∧ Even W w' P := by
  obtain ⟨R, Q, S, m, h⟩ := h
  have hb : Below w.heap.size w (w.alloc (.cells #[.int .i64 3, .int .i64 (ki : Int), .int .i64 ro, .int .i64 sp, .int .i64 pg, .int .i64 st, .int .i64 wy, .int .u64 ad, .int .u64 v] 44)) := bal (Below.refl _ _) _
  have HM := Lib.hid (h.call hb)
  have HX := Lib.hid (xc_new w 3 (ki : Int) ro sp pg st wy ad v 44)
  have HX0 : Hid (P.col w.heap.size = 0) := Lib.hid (h.hi _ h.ll)
  have hxl : w.heap.size < (w.alloc (.cells #[.int .i64 3, .int .i64 (ki : Int), .int .i64 ro, .int .i64 sp, .int .i64 pg, .int .i64 st, .int .i64 wy, .int .u64 ad, .int .u64 v] 44)).heap.size := by simp
  have HXL := Lib.hid hxl
  clear h hb hxl
  go_enter Try.func17, Try.ntmps17
  go_upto_region 1 with fail
  obtain ⟨w1, hw1⟩ : ∃ z, z = w.alloc (.cells #[.int .i64 3, .int .i64 (ki : Int), .int .i64 ro, .int .i64 sp, .int .i64 pg, .int .i64 st, .int .i64 wy, .int .u64 ad, .int .u64 v] 44) := ⟨_, rfl⟩
  rw [← hw1] at HM HX HXL ⊢
  clear hw1
  generalize w.heap.size = xB at *
  have HKI := Lib.hid hki
  have HH := Lib.hid (has_of hki)
  have n3 := HM.out.ro.n3
  have hkI : (ki : Int) < P.n := by omega
  have hk0 : ¬ (ki : Int) < 0 := by omega
  obtain ⟨⟨s', bz⟩, hev⟩ : ∃ z, evictS (S ki) st wy = z := ⟨_, rfl⟩
  have he1 : evC P.n S (ki : Int) st wy = (setT S ki s', bz) := by unfold evC; rw [if_pos (has_of hki)]; simp [hev]
  have HE1 := Lib.hid he1
  have HE2 := Lib.hid hev
  clear he1 hev
  obtain ⟨z0, -⟩ := HX.out
  go_upto_region 11 with fail
  clear z0
  have HMd := Lib.hid (HM.out.call (Below.refl _ _).drew)
  have HX : Hid (XC w1.drew xB 3 (ki : Int) ro sp pg st wy ad v) := Lib.hid (show XC w1.drew xB 3 (ki : Int) ro sp pg st wy ad v from HX.out)
  have HXL : Hid (xB < w1.drew.heap.size) := HXL
  have HRW := Lib.hid (HMd.out.rows HKI.out)
  go_region_held3 (fun w' => (w'.cell? ⟨xB, 0, none⟩ = some (.int .i64 3) ∧ w'.cell? ⟨xB, 1, none⟩ = some (.int .i64 (ki : Int)) ∧ w'.cell? ⟨xB, 2, none⟩ = some (.int .i64 ro) ∧ w'.cell? ⟨xB, 3, none⟩ = some (.int .i64 sp) ∧ w'.cell? ⟨xB, 4, none⟩ = some (.int .i64 pg) ∧ w'.cell? ⟨xB, 5, none⟩ = some (.int .i64 st) ∧ w'.cell? ⟨xB, 6, none⟩ = some (.int .i64 wy) ∧ w'.cell? ⟨xB, 7, none⟩ = some (.int .u64 ad) ∧ w'.cell? ⟨xB, 8, none⟩ = some (.int .u64 v)) ∧ w'.cell? ⟨P.rb, 0, none⟩ = some (.slice (some ⟨P.rg, 0, none⟩) P.n P.rc) ∧ w'.cell? ⟨P.rg, ki * 3 + 2, none⟩ = some (.pointer (some ⟨P.RT ki, 0, none⟩)))
    (exact ⟨HX.out, HRW.out.1, HRW.out.2⟩)
    (first
      | (go_at_call 36; (first | (with_reducible refine (HM2.out.hasB _).mono ?_) | (with_reducible refine (HMd.out.hasB _).mono ?_)); rw [HH.out]; rintro e w5 ⟨rfl, rfl⟩)
      | (go_at_call 37; (with_reducible refine (HM2.out.evB ki st wy HKI.out).mono ?_); rw [HE2.out]; rintro e w3 ⟨rfl, hm, hk⟩; have HM3 := Lib.hid hm; have HX : Hid (XC _ xB 3 (ki : Int) ro sp pg st wy ad v) := Lib.hid (HX.out.of_block (hk.blk xB HXL.out HX0.out)); have HXL : Hid (xB < _) := Lib.hid (HX.out.lt); have HRW := Lib.hid (HM3.out.rows HKI.out); clear hm hk)
      | (go_at_call 23; (with_reducible refine (HMd.out.evA (ki : Int) st wy).mono ?_); rw [HE1.out]; rintro e w3 ⟨rfl, hm, hk⟩; have HM2 := Lib.hid hm; have HX : Hid (XC _ xB 3 (ki : Int) ro sp pg st wy ad v) := Lib.hid (HX.out.of_block (hk.blk xB HXL.out HX0.out)); have HXL : Hid (xB < _) := Lib.hid (HX.out.lt); have HRW := Lib.hid (HM2.out.rows HKI.out); clear hm hk))
  all_goals
    go_wp2
    go_ret
    exact ⟨by first | rfl | simp, _, _, _, _, HM3.out⟩
set_option maxRecDepth 100000 in
set_option maxHeartbeats 4000000 in
theorem done_ev0 (W w : World) (P : Pl) (co ro sp pg st wy ad v : Int) (h : Even W w P) (hc : ¬ hasC P.n co = true) :
    Calls Try.prog 17 #[.pointer (some ⟨P.b, 0, none⟩), .pointer (some ⟨P.rb, 0, none⟩), .pointer (some ⟨P.mb, 0, none⟩), .pointer (some ⟨P.ub, 0, none⟩), actV 3 co ro sp pg st wy ad v] w fun e w' => e = .returned (.bool true) ∧ Even W w' P := by
  obtain ⟨R, Q, S, m, h⟩ := h
  have hb : Below w.heap.size w (w.alloc (.cells #[.int .i64 3, .int .i64 co, .int .i64 ro, .int .i64 sp, .int .i64 pg, .int .i64 st, .int .i64 wy, .int .u64 ad, .int .u64 v] 44)) := bal (Below.refl _ _) _
  have HM := Lib.hid (h.call hb)
  have HX := Lib.hid (xc_new w 3 co ro sp pg st wy ad v 44)
  have HX0 : Hid (P.col w.heap.size = 0) := Lib.hid (h.hi _ h.ll)
  have hxl : w.heap.size < (w.alloc (.cells #[.int .i64 3, .int .i64 co, .int .i64 ro, .int .i64 sp, .int .i64 pg, .int .i64 st, .int .i64 wy, .int .u64 ad, .int .u64 v] 44)).heap.size := by simp
  have HXL := Lib.hid hxl
  clear h hb hxl
  go_enter Try.func17, Try.ntmps17
  go_upto_region 1 with fail
  obtain ⟨w1, hw1⟩ : ∃ z, z = w.alloc (.cells #[.int .i64 3, .int .i64 co, .int .i64 ro, .int .i64 sp, .int .i64 pg, .int .i64 st, .int .i64 wy, .int .u64 ad, .int .u64 v] 44) := ⟨_, rfl⟩
  rw [← hw1] at HM HX HXL ⊢
  clear hw1
  generalize w.heap.size = xB at *
  have HEA : Hid (∀ j, Calls Try.prog 23 #[.pointer (some ⟨P.b, 0, none⟩), .int .i64 co, .int .i64 st, .int .i64 wy] (w1.drewN j) fun e w' => e = .returned (.bool false) ∧ w1.drewN j = w') := Lib.hid (fun j => cevict_bad (w1.drewN j) P.b P.g P.n P.c co st wy R Q P.T S (HM.out.co.call (below_drewN (Below.refl _ _) _)) hc)
  have hh : hasC P.n co = false := by simpa using hc
  have HHA : Hid (∀ j, Calls Try.prog 36 #[.pointer (some ⟨P.rb, 0, none⟩), .int .i64 co] (w1.drewN j) fun e w' => e = .returned (.bool false) ∧ w1.drewN j = w') := Lib.hid (fun j => by have := rhas_any (w1.drewN j) P.rb P.rg P.n P.rc co R Q P.RT S (HM.out.ro.call (below_drewN (Below.refl _ _) _)); rw [hh] at this; exact this)
  clear hh hc
  obtain ⟨z0, z1, -, -, -, z5, z6, -⟩ := HX.out
  go_upto_region 11 with fail
  go_quiet ((first
    | (go_at_call 23; with_reducible exact Calls.quiet_of_same (same_q (HEA.out _)))
    | (go_at_call 36; with_reducible exact Calls.quiet_of_same (same_q (HHA.out _)))))
  go_wp2
  go_ret
  exact ⟨by first | rfl | simp, _, _, _, _, HM.out.call (below_drewN (Below.refl _ _) _)⟩
set_option maxRecDepth 100000 in
set_option maxHeartbeats 4000000 in
theorem done_trans (W w : World) (P : Pl) (co ro sp pg st wy ad v : Int) (h : Even W w P) :
    Calls Try.prog 17 #[.pointer (some ⟨P.b, 0, none⟩), .pointer (some ⟨P.rb, 0, none⟩), .pointer (some ⟨P.mb, 0, none⟩), .pointer (some ⟨P.ub, 0, none⟩), actV 1 co ro sp pg st wy ad v] w fun e w' => e = .returned (.bool true) ∧ Even W w' P := by
  obtain ⟨R, Q, S, m, h⟩ := h
  have hb : Below w.heap.size w (w.alloc (.cells #[.int .i64 1, .int .i64 co, .int .i64 ro, .int .i64 sp, .int .i64 pg, .int .i64 st, .int .i64 wy, .int .u64 ad, .int .u64 v] 44)) := bal (Below.refl _ _) _
  have HM := Lib.hid (h.call hb)
  have HX := Lib.hid (xc_new w 1 co ro sp pg st wy ad v 44)
  have HX0 : Hid (P.col w.heap.size = 0) := Lib.hid (h.hi _ h.ll)
  have hxl : w.heap.size < (w.alloc (.cells #[.int .i64 1, .int .i64 co, .int .i64 ro, .int .i64 sp, .int .i64 pg, .int .i64 st, .int .i64 wy, .int .u64 ad, .int .u64 v] 44)).heap.size := by simp
  have HXL := Lib.hid hxl
  clear h hb hxl
  go_enter Try.func17, Try.ntmps17
  go_upto_region 1 with fail
  obtain ⟨w1, hw1⟩ : ∃ z, z = w.alloc (.cells #[.int .i64 1, .int .i64 co, .int .i64 ro, .int .i64 sp, .int .i64 pg, .int .i64 st, .int .i64 wy, .int .u64 ad, .int .u64 v] 44) := ⟨_, rfl⟩
  rw [← hw1] at HM HX HXL ⊢
  clear hw1
  generalize w.heap.size = xB at *
  obtain ⟨⟨⟨tx, th, tc⟩, ts⟩, hz⟩ : ∃ z, transC P.n R Q S 8 m co pg = z := ⟨_, rfl⟩
  have HZ := Lib.hid hz
  clear hz
  have heq : ∀ w, (binOp .eql 52 (trX tx) (trX tx)).run Try.prog w = .ok (.bool true) w := fun w => by rw [eqT]; simp
  obtain ⟨z0, z1, -, -, z4, -⟩ := HX.out
  go_upto_region 6 with (go_at_call 24; (with_reducible refine (HM.out.transA co pg).mono ?_); rw [HZ.out]; rintro e w3 ⟨rfl, hm, hk⟩; have HM3 := Lib.hid hm; have HX3 := Lib.hid (HX.out.of_block (hk.blk xB HXL.out HX0.out)); clear hm hk)
  obtain ⟨w4, hw4⟩ : ∃ z, z = w3.alloc (.cells #[.int .i64 tx.s, .int .i64 tx.p, .int .i64 tx.f, .bool tx.r, .bool tx.w] 52) := ⟨_, rfl⟩
  rw [← hw4]
  have hb4 : Below w3.heap.size w3 w4 := by rw [hw4]; exact bal (Below.refl _ _) _
  have HT4 : Hid (TrAt w4 w3.heap.size tx) := Lib.hid (by rw [hw4]; exact tr_new w3 tx)
  have HM4 := Lib.hid (HM3.out.call hb4)
  have HX4 : Hid (XC w4 xB 1 co ro sp pg st wy ad v) := Lib.hid (HX3.out.of_block (hb4.block xB HX3.out.lt))
  have HQ0 : Hid (P.col w3.heap.size = 0) := Lib.hid (HM3.out.hi _ HM3.out.ll)
  have hq4 : w3.heap.size < w4.heap.size := by rw [hw4]; simp
  clear z0 z1 z4 hw4 hb4
  generalize w3.heap.size = q at *
  obtain ⟨z0, z1, -, -, z4, -⟩ := HX4.out
  go_upto_region 7 with (go_at_call 34; (with_reducible refine (HM4.out.transB co pg).mono ?_); rw [HZ.out]; rintro e w5 ⟨rfl, hm, hk⟩; have HM5 := Lib.hid hm; have HKQ := Lib.hid (hk.blk q hq4 HQ0.out); have hq5 : w4.heap.size ≤ w5.heap.size := hk.sz; clear hm hk)
  obtain ⟨w6, hw6⟩ : ∃ z, z = w5.alloc (.cells #[.int .i64 tx.s, .int .i64 tx.p, .int .i64 tx.f, .bool tx.r, .bool tx.w] 52) := ⟨_, rfl⟩
  rw [← hw6]
  have hb6 : Below w5.heap.size w5 w6 := by rw [hw6]; exact bal (Below.refl _ _) _
  obtain ⟨a0, a1, a2, a3, a4⟩ : TrAt w6 w5.heap.size tx := by rw [hw6]; exact tr_new w5 tx
  obtain ⟨b0, b1, b2, b3, b4⟩ := HT4.out
  have kq := HKQ.out
  have hql : q < w5.heap.size := by omega
  have c0 := (hb6.cell (p := ⟨q, 0, none⟩) hql).trans ((cell_of_block kq).trans b0)
  have c1 := (hb6.cell (p := ⟨q, 1, none⟩) hql).trans ((cell_of_block kq).trans b1)
  have c2 := (hb6.cell (p := ⟨q, 2, none⟩) hql).trans ((cell_of_block kq).trans b2)
  have c3 := (hb6.cell (p := ⟨q, 3, none⟩) hql).trans ((cell_of_block kq).trans b3)
  have c4 := (hb6.cell (p := ⟨q, 4, none⟩) hql).trans ((cell_of_block kq).trans b4)
  have HM6 := Lib.hid (HM5.out.call hb6)
  clear z0 z1 z4 hw6 hb6 b0 b1 b2 b3 b4 kq hql hq5 hq4
  generalize w5.heap.size = q2 at *
  cases th
  all_goals
    go_wp2_with (go_at_call 14; (with_reducible refine (num_i _ _).mono ?_); rintro e w7 ⟨rfl, rfl⟩)
    go_ret
    exact ⟨by first | rfl | simp, _, _, _, _, HM6.out⟩
set_option maxRecDepth 100000 in
set_option maxHeartbeats 4000000 in
theorem done_other (W w : World) (P : Pl) ( d co ro sp pg st wy ad v : Int) (h : Even W w P) (h0 : ¬ d = 0) (h1 : ¬ d = 1) (h2 : ¬ d = 2) (h3 : ¬ d = 3) (h4 : ¬ d = 4) (h5 : ¬ d = 5) (h6 : ¬ d = 6) :
    Calls Try.prog 17 #[.pointer (some ⟨P.b, 0, none⟩), .pointer (some ⟨P.rb, 0, none⟩), .pointer (some ⟨P.mb, 0, none⟩), .pointer (some ⟨P.ub, 0, none⟩), actV d co ro sp pg st wy ad v] w fun e w' => e = .returned (.bool true) ∧ Even W w' P := by
  obtain ⟨R, Q, S, m, h⟩ := h
  have hb : Below w.heap.size w (w.alloc (.cells #[.int .i64 d, .int .i64 co, .int .i64 ro, .int .i64 sp, .int .i64 pg, .int .i64 st, .int .i64 wy, .int .u64 ad, .int .u64 v] 44)) := bal (Below.refl _ _) _
  have HM := Lib.hid (h.call hb)
  have HX := Lib.hid (xc_new w d co ro sp pg st wy ad v 44)
  have HX0 : Hid (P.col w.heap.size = 0) := Lib.hid (h.hi _ h.ll)
  have hxl : w.heap.size < (w.alloc (.cells #[.int .i64 d, .int .i64 co, .int .i64 ro, .int .i64 sp, .int .i64 pg, .int .i64 st, .int .i64 wy, .int .u64 ad, .int .u64 v] 44)).heap.size := by simp
  have HXL := Lib.hid hxl
  clear h hb hxl
  go_enter Try.func17, Try.ntmps17
  go_upto_region 1 with fail
  obtain ⟨w1, hw1⟩ : ∃ z, z = w.alloc (.cells #[.int .i64 d, .int .i64 co, .int .i64 ro, .int .i64 sp, .int .i64 pg, .int .i64 st, .int .i64 wy, .int .u64 ad, .int .u64 v] 44) := ⟨_, rfl⟩
  rw [← hw1] at HM HX HXL ⊢
  clear hw1
  generalize w.heap.size = xB at *
  have HEV := Lib.hid (show Even W w1 P from ⟨_, _, _, _, HM.out⟩)
  obtain ⟨z0, -⟩ := HX.out
  go_wp2_with (go_at_call 18; refine (HEV.out.alike).mono ?_; rintro e w3 ⟨rfl, hb3⟩)
  go_ret
  exact ⟨rfl, HEV.out.call hb3⟩
theorem done_any (W w : World) (P : Pl) (d co ro sp pg st wy ad v : Int) (h : Even W w P) (hwa : WordI ad) (hwv : WordI v) :
    Calls Try.prog 17 #[.pointer (some ⟨P.b, 0, none⟩), .pointer (some ⟨P.rb, 0, none⟩), .pointer (some ⟨P.mb, 0, none⟩), .pointer (some ⟨P.ub, 0, none⟩), actV d co ro sp pg st wy ad v] w fun e w' => e = .returned (.bool true) ∧ Even W w' P := by
  by_cases h0 : d = 0
  · subst h0; exact done_set W w P co ro sp pg st wy ad v h
  by_cases h1 : d = 1
  · subst h1; exact done_trans W w P co ro sp pg st wy ad v h
  by_cases h2 : d = 2
  · subst h2; exact done_pref W w P co ro sp pg st wy ad v h
  by_cases h3 : d = 3
  · subst h3
    by_cases hc : hasC P.n co = true
    · obtain ⟨k, hk, rfl⟩ := has_nat hc
      exact done_ev W w P ro sp pg st wy ad v k h hk
    · exact done_ev0 W w P co ro sp pg st wy ad v h hc
  by_cases h4 : d = 4
  · subst h4
    by_cases hp : pg = -1
    · subst hp; exact done_page0 W w P co ro sp st wy ad v h
    · exact done_page W w P co ro sp pg st wy ad v h hp
  by_cases h5 : d = 5
  · subst h5; exact done_space W w P co ro sp pg st wy ad v h
  by_cases h6 : d = 6
  · subst h6; exact done_store W w P co ro sp pg st wy ad v h hwa hwv
  exact done_other W w P d co ro sp pg st wy ad v h h0 h1 h2 h3 h4 h5 h6
end
/- The law CoresScript. -/
section
set_option linter.unusedVariables false
set_option linter.unusedSimpArgs false
open Go.ChangeShapes Go.WideShapes Go.ChangeAt Go.RowKit Go.Shelf
def WordsAt (w : World) (p : Option Addr) (n : Nat) (D : Nat → Int) : Prop :=
  ∃ b off, (0 < n → p = some ⟨b, off, none⟩ ∧ b < w.heap.size) ∧ ∀ k, k < n → w.cell? ⟨b, off + k, none⟩ = some (.int .u64 (D k)) ∧ WordI (D k)
set_option maxRecDepth 100000 in
theorem open_s22 {H : Type} {enc : TypeId × Value → H} {W : World} {base : Nat} {v : Value} {d : DataW H} {ps : List MemPlace} (hval : Value.okWide Try.prog W .any base 22 v) (hd : DataW.Trod enc Try.prog W 0 (fun _ => true) true 22 v d ps) :
    ∃ p n c, v = .slice p n c ∧ n ≤ c ∧ c ≤ maxLen ∧ ∃ D, WordsAt W p n D := by
  obtain ⟨p, n, c, rfl, h1, h2, b, off, h3, h4⟩ := open_rows (C := 1) Try.underlying22 (by kernel_rfl) (by kernel_rfl) (by decide) hval hd
  refine ⟨p, n, c, rfl, h1, h2, fun k => intAt W b (off + (k * 1 + 0)), b, off, h3, fun k hk => ?_⟩
  obtain ⟨c0, o0⟩ := h4 k hk 0 (.i .u64) (by kernel_rfl)
  refine ⟨?_, u64_of o0⟩
  simpa using c0
theorem cnew_bad (w : World) (n : Int) (h : n < 1 ∨ n > 3) : Calls Try.prog 10 #[.int .i64 n] w fun e w' => e = .returned (.tuple #[.pointer none, .int .i64 3]) ∧ w = w' := by
  by_cases h1 : n < 1
  · clear h
    go_enter Try.func10, Try.ntmps10
    go_wp2
    go_ret2
    exact ⟨rfl, rfl⟩
  · have h2 : n > 3 := by omega
    clear h
    go_enter Try.func10, Try.ntmps10
    go_wp2
    go_ret2
    exact ⟨rfl, rfl⟩
theorem rcnew_bad (w : World) (n : Int) (h : n < 1 ∨ n > 3) : Calls Try.prog 11 #[.int .i64 n] w fun e w' => e = .returned (.tuple #[.pointer none, .int .i64 3]) ∧ w = w' := by
  by_cases h1 : n < 1
  · clear h
    go_enter Try.func11, Try.ntmps11
    go_wp2
    go_ret2
    exact ⟨rfl, rfl⟩
  · have h2 : n > 3 := by omega
    clear h
    go_enter Try.func11, Try.ntmps11
    go_wp2
    go_ret2
    exact ⟨rfl, rfl⟩
def colF (a b c d e k : Nat) : Nat := if k < a then 0 else if k < b then 1 else if k < c then 2 else if k < d then 3 else if k < e then 4 else 0
theorem col_0 {a b c d e k : Nat} (h : k < a ∨ (a ≤ k ∧ b ≤ k ∧ c ≤ k ∧ d ≤ k ∧ e ≤ k)) : colF a b c d e k = 0 := by
  unfold colF
  rcases h with h | ⟨h1, h2, h3, h4, h5⟩
  · rw [if_pos h]
  · rw [if_neg (by omega), if_neg (by omega), if_neg (by omega), if_neg (by omega), if_neg (by omega)]
theorem col_1 {a b c d e k : Nat} (h : a ≤ k) (h2 : k < b) : colF a b c d e k = 1 := by unfold colF; rw [if_neg (by omega), if_pos h2]
theorem col_2 {a b c d e k : Nat} (h0 : a ≤ b) (h : b ≤ k) (h2 : k < c) : colF a b c d e k = 2 := by unfold colF; rw [if_neg (by omega), if_neg (by omega), if_pos h2]
theorem col_3 {a b c d e k : Nat} (h0 : a ≤ b) (h1 : b ≤ c) (h : c ≤ k) (h2 : k < d) : colF a b c d e k = 3 := by unfold colF; rw [if_neg (by omega), if_neg (by omega), if_neg (by omega), if_pos h2]
theorem col_4 {a b c d e k : Nat} (h0 : a ≤ b) (h1 : b ≤ c) (h3 : c ≤ d) (h : d ≤ k) (h2 : k < e) : colF a b c d e k = 4 := by unfold colF; rw [if_neg (by omega), if_neg (by omega), if_neg (by omega), if_neg (by omega), if_pos h2]
theorem even_start {W w1 w2 w3 w4 : World} {n b g rb rg rc mb mg mc ub ug uc : Nat} {T RT : Nat → Nat} (h1 : CoresAt w1 b g n n (fun _ => -1) (fun _ => 0) T (fun _ => S0)) (h2 : RCor w2 rb rg n rc (fun _ => -1) (fun _ => 0) RT (fun _ => S0)) (h3 : MemAt w3 mb mg 8 mc (fun _ => 0)) (h4 : RefAt w4 ub ug 8 uc (fun _ => 0))
    (l1 : W.heap.size ≤ b) (l2 : W.heap.size ≤ g) (l3 : ∀ i, i < n → W.heap.size ≤ T i) (l4 : w1.heap.size ≤ rb) (l5 : w1.heap.size ≤ rg) (l6 : ∀ i, i < n → w1.heap.size ≤ RT i) (l7 : w2.heap.size ≤ mb) (l8 : w2.heap.size ≤ mg) (l9 : w3.heap.size ≤ ub) (l10 : w3.heap.size ≤ ug)
    (b1 : Below W.heap.size W w1) (b2 : Below w1.heap.size w1 w2) (b3 : Below w2.heap.size w2 w3) (b4 : Below w3.heap.size w3 w4) :
    Even W w4 ⟨b, g, n, n, rb, rg, rc, mb, mg, mc, ub, ug, uc, T, RT, colF W.heap.size w1.heap.size w2.heap.size w3.heap.size w4.heap.size, w4.heap.size⟩ := by
  have s1 := b1.size
  have s2 := b2.size
  have s3 := b3.size
  have s4 := b4.size
  have n1 := h1.n1
  refine ⟨fun _ => -1, fun _ => 0, fun _ => S0, fun _ => 0, ⟨((h1.call b2).call b3).call b4, (h2.call b3).call b4, h3.call b4, h4, ⟨col_1 l1 h1.lb, col_1 l2 h1.lg, fun i hi => col_1 (l3 i hi) (h1.tlb i hi).lt⟩, ⟨col_2 s1 l4 h2.lb, col_2 s1 l5 h2.lg, fun i hi => col_2 s1 (l6 i hi) (h2.tlb i hi).lt⟩, ⟨col_3 s1 s2 l7 h3.lb, col_3 s1 s2 l8 h3.lg⟩, ⟨col_4 s1 s2 s3 l9 h4.lb, col_4 s1 s2 s3 l10 h4.lg⟩, fun k hk => col_0 (.inl hk), h1.regs, h1.good, bgo (bgo (bgo b1 b2) b3) b4, fun k hk => col_0 (.inr (by simp only at hk; omega)), Nat.le_refl _⟩⟩
theorem Even.bel {W w : World} {P : Pl} (h : Even W w P) : Below W.heap.size W w := by
  obtain ⟨R, Q, S, m, h⟩ := h
  exact h.bel
set_option maxRecDepth 100000 in
set_option maxHeartbeats 8000000 in
theorem cscript_any (n : Nat) (h1 : 1 ≤ n) (h3 : n ≤ 3) (p : Option Addr) (l c : Nat) (DW : Nat → Int) (p2 : Option Addr) (l2 c2 : Nat) (DA : Nat → ActC) (W : World) (hl : l ≤ 64) (hl2 : l2 ≤ 120) (hDW : WordsAt W p l DW) (hDA : ActsAt W p2 l2 DA) :
    Calls Try.prog 3 #[.int .i64 n, .slice p l c, .slice p2 l2 c2] W fun e w' => e = .returned (.bool true) ∧ Below W.heap.size W w' := by
  obtain ⟨pb, off, hp, hd⟩ := hDW
  have HP := Lib.hid hp
  have HD := Lib.hid hd
  have HA := Lib.hid hDA
  have i1 : ¬ (l2 : Int) > 120 := by omega
  have i2 : ¬ (l : Int) > 64 := by omega
  clear hp hd hDA
  go_enter Try.func3, Try.ntmps3
  go_upto_region 4 with (go_at_call 10; refine (cnew_ok _ n h1 h3).mono ?_; rintro e w1 ⟨b, g, T, rfl, hc1, l1, l2', l3, hb1⟩; have HC1 := Lib.hid hc1; have HB1 := Lib.hid hb1; have HL1 := Lib.hid l1; have HL2 := Lib.hid l2'; have HL3 := Lib.hid l3; clear hc1 hb1 l1 l2' l3)
  go_upto_region 5 with (go_at_call 11; refine (rnew_cores _ n h1 h3).mono ?_; rintro e w2 ⟨rg, rc, RT, rfl, hc2, l5, l6, hb2⟩; have HC2 := Lib.hid hc2; have HB2 := Lib.hid hb2; have HL5 := Lib.hid l5; have HL6 := Lib.hid l6; clear hc2 hb2 l5 l6)
  go_upto_region 6 with (fail)
  refine (new_ok _ 8 (by decide) (by decide)).mono ?_
  rintro e w3 ⟨mb, mg, mc, rfl, hm3, l7, l8, hb3⟩
  have HC3 := Lib.hid hm3
  have HB3 := Lib.hid hb3
  have HL7 := Lib.hid l7
  have HL8 := Lib.hid l8
  clear hm3 hb3 l7 l8
  go_upto_region 7 with (fail)
  refine (rnew_ok _ 8 (by decide) (by decide)).mono ?_
  rintro e w4 ⟨ub, ug, uc, rfl, hm4, l9, l10, hb4⟩
  have HE := Lib.hid (even_start HC1.out HC2.out HC3.out hm4 HL1.out HL2.out HL3.out (Nat.le_refl _) HL5.out HL6.out HL7.out HL8.out l9 l10 HB1.out HB2.out HB3.out hb4)
  clear hm4 hb4 l9 l10 HC1 HC2 HC3 HB1 HB2 HB3 HL1 HL2 HL3 HL5 HL6 HL7 HL8
  generalize colF W.heap.size w1.heap.size w2.heap.size w3.heap.size w4.heap.size = col at *
  generalize w1.heap.size = rb at *
  generalize w4.heap.size = lim at *
  go_wp2_with (go_at_call 14; (with_reducible refine (num_i _ _).mono ?_); rintro e w5 ⟨rfl, rfl⟩)
  obtain ⟨P, hP⟩ : ∃ P : Pl, P = ⟨b, g, n, n, rb, rg, rc, mb, mg, mc, ub, ug, uc, T, RT, col, lim⟩ := ⟨_, rfl⟩
  rw [← hP] at HE
  obtain ⟨q1, q2, q3, q4⟩ : b = P.b ∧ rb = P.rb ∧ mb = P.mb ∧ ub = P.ub := by rw [hP]; exact ⟨rfl, rfl, rfl, rfl⟩
  rw [q1, q2, q3, q4]
  clear q1 q2 q3 q4 hP
  go_loopw [15] (fun i wr => ∃ k : Nat, k ≤ l ∧ i = .int .i64 k ∧ Hid (Even W wr P)) (fun i _ => l - (intOf i).toNat)
  case atStart => exact ⟨0, by omega, rfl, HE⟩
  clear HE
  case round =>
    obtain ⟨k, hk, rfl, HE⟩ := hrel
    by_cases hlt : k < l
    · have hltI : (k : Int) < l := by omega
      obtain ⟨rfl, hpb⟩ := HP.out (by omega)
      obtain ⟨c0, hwd⟩ := HD.out k hlt
      obtain ⟨R, Q, S, m, hM⟩ := HE.out
      have c2 : wr.cell? ⟨pb, off + k, none⟩ = some (.int .u64 (DW k)) := (hM.bel.cell (p := ⟨pb, off + k, none⟩) hpb).trans c0
      have HM := Lib.hid hM
      have HWV := Lib.hid hwd
      have HWA : Hid (WordI (8 * (k : Int))) := Lib.hid ⟨by omega, by omega⟩
      have HC0 := Lib.hid c0
      clear hM hwd c0
      go_wp2_with (first
        | (go_at_call 15; (with_reducible refine (HM.out.stA (8 * (k : Int)) (DW k) HWA.out HWV.out).mono ?_); rintro e w5 ⟨rfl, hm, hk5⟩; have c3 : w5.cell? ⟨pb, off + k, none⟩ = some (.int .u64 (DW k)) := (hm.bel.cell (p := ⟨pb, off + k, none⟩) hpb).trans HC0.out; have HM5 := Lib.hid hm; clear hm hk5)
        | (go_at_call 16; (with_reducible refine (HM5.out.stB (8 * (k : Int)) (DW k) HWA.out HWV.out).mono ?_); rintro e w6 ⟨rfl, hm, hk6⟩; have HM6 := Lib.hid hm; clear hm hk6))
      go_roundw
      case rel => exact ⟨k + 1, by omega, by go_num, Lib.hid ⟨_, _, _, _, HM6.out⟩⟩
      case measure => simp [intOf]; omega
    · obtain rfl : k = l := by omega
      go_wp2
      go_loopw [16] (fun i wr => ∃ t : Nat, t ≤ l2 ∧ i = .int .i64 t ∧ Hid (Even W wr P)) (fun i _ => l2 - (intOf i).toNat)
      case atStart => exact ⟨0, by omega, rfl, HE⟩
      clear HE
      case round =>
        obtain ⟨t, ht, rfl, HE⟩ := hrel
        by_cases hlt2 : t < l2
        · have hltI : (t : Int) < l2 := by omega
          obtain ⟨aB, aO, hq, hcs⟩ := HA.out
          obtain ⟨rfl, hal⟩ := hq (by omega)
          obtain ⟨⟨d0, d1, d2, d3, d4, d5, d6, d7, d8⟩, hok⟩ := hcs t hlt2
          have hbl := HE.out.bel
          have c0 := (hbl.cell (p := ⟨aB, aO + t * 9, none⟩) hal).trans d0
          have c1 := (hbl.cell (p := ⟨aB, aO + t * 9 + 1, none⟩) hal).trans d1
          have c2 := (hbl.cell (p := ⟨aB, aO + t * 9 + 2, none⟩) hal).trans d2
          have c3 := (hbl.cell (p := ⟨aB, aO + t * 9 + 3, none⟩) hal).trans d3
          have c4 := (hbl.cell (p := ⟨aB, aO + t * 9 + 4, none⟩) hal).trans d4
          have c5 := (hbl.cell (p := ⟨aB, aO + t * 9 + 5, none⟩) hal).trans d5
          have c6 := (hbl.cell (p := ⟨aB, aO + t * 9 + 6, none⟩) hal).trans d6
          have c7 := (hbl.cell (p := ⟨aB, aO + t * 9 + 7, none⟩) hal).trans d7
          have c8 := (hbl.cell (p := ⟨aB, aO + t * 9 + 8, none⟩) hal).trans d8
          clear hq hcs hbl d0 d1 d2 d3 d4 d5 d6 d7 d8
          obtain ⟨⟨d, co, ro, sp, pg, st, wy, ad, v⟩, hx⟩ : ∃ x, x = DA t := ⟨_, rfl⟩
          rw [← hx] at c0 c1 c2 c3 c4 c5 c6 c7 c8 hok
          simp only [] at c0 c1 c2 c3 c4 c5 c6 c7 c8
          have HOK := Lib.hid hok
          clear hx hok
          go_wp2_with (go_at_call 17; (with_reducible refine (done_any W _ P d co ro sp pg st wy ad v HE.out HOK.out.ad HOK.out.v).mono ?_); rintro e w7 ⟨rfl, hE7⟩; have HE7 := Lib.hid hE7; clear hE7)
          go_roundw
          case rel => exact ⟨t + 1, by omega, by go_num, HE7⟩
          case measure => simp [intOf]; omega
        · obtain rfl : t = l2 := by omega
          go_wp2_with (first
            | (go_at_call 18; (with_reducible refine (HE.out.alike).mono ?_); rintro e w8 ⟨rfl, hb8⟩; have HB8 := Lib.hid (HE.out.bel.trans (hb8.mono HE.out.bel.size)); clear hb8)
            | (go_at_call 9; (with_reducible refine (awake7 _).mono ?_); rintro e w9 ⟨rfl, hb9⟩; have HB9 := Lib.hid (HB8.out.trans (hb9.mono HB8.out.size)); clear hb9))
          go_ret
          exact ⟨rfl, HB9.out⟩
set_option maxRecDepth 100000 in
set_option maxHeartbeats 2000000 in
theorem walk_coresScript {W : World} (a0 : Int) (wf0 : (Lit.int .i64 a0).wf = true) (p : Option Addr) (n c : Nat) (hx : n ≤ c ∧ c ≤ maxLen ∧ ∃ D, WordsAt W p n D) (p2 : Option Addr) (n2 c2 : Nat) (hx2 : n2 ≤ c2 ∧ c2 ≤ maxLen ∧ ∃ D, ActsAt W p2 n2 D) :
    Calls Try.prog 3 #[.int .i64 a0, .slice p n c, .slice p2 n2 c2] W fun e w' => e = .returned (.bool true) ∧ Below W.heap.size W w' := by
  obtain ⟨h1, h2, D, hD⟩ := hx
  obtain ⟨k1, k2, D2, hD2⟩ := hx2
  unfold maxLen at h2 k2
  clear wf0
  by_cases hn : n2 ≤ 120
  · by_cases hw : n ≤ 64
    · by_cases ha : a0 < 1 ∨ a0 > 3
      · have HA := Lib.hid ha
        have i1 : ¬ (n2 : Int) > 120 := by omega
        have i2 : ¬ (n : Int) > 64 := by omega
        clear hD hD2 ha
        go_enter Try.func3, Try.ntmps3
        go_upto_region 5 with (first
          | (go_at_call 10; (with_reducible refine (cnew_bad _ a0 HA.out).mono ?_); rintro e w1 ⟨rfl, rfl⟩)
          | (go_at_call 11; (with_reducible refine (rcnew_bad _ a0 HA.out).mono ?_); rintro e w1 ⟨rfl, rfl⟩))
        go_upto_region 6 with (fail)
        refine (new_ok _ 8 (by decide) (by decide)).mono ?_
        rintro e w3 ⟨mb, mg, mc, rfl, -, -, -, hb3⟩
        go_upto_region 7 with (fail)
        refine (rnew_ok _ 8 (by decide) (by decide)).mono ?_
        rintro e w4 ⟨ub, ug, uc, rfl, -, -, -, hb4⟩
        have HB4 := Lib.hid (bgo hb3 hb4)
        clear hb3 hb4
        go_wp2_with (first
          | (go_at_call 14; (with_reducible refine (num_i _ _).mono ?_); rintro e w5 ⟨rfl, rfl⟩)
          | (go_at_call 9; (with_reducible refine (awake7 _).mono ?_); rintro e w9 ⟨rfl, hb9⟩; have HB9 := Lib.hid (bgo HB4.out hb9); clear hb9))
        go_ret
        exact ⟨rfl, HB9.out⟩
      · obtain ⟨k, rfl⟩ : ∃ k : Nat, a0 = k := ⟨a0.toNat, by omega⟩
        exact cscript_any k (by omega) (by omega) p n c D p2 n2 c2 D2 W hw hn hD hD2
    · have i1 : ¬ (n2 : Int) > 120 := by omega
      have i2 : (n : Int) > 64 := by omega
      clear hD hD2
      go_enter Try.func3, Try.ntmps3
      go_wp2_with (go_at_call 9; refine (awake7 _).mono ?_; rintro e w3 ⟨rfl, hb3⟩)
      go_ret
      exact ⟨rfl, hb3⟩
  · have i1 : (n2 : Int) > 120 := by omega
    clear hD hD2
    go_enter Try.func3, Try.ntmps3
    go_wp2_with (go_at_call 9; refine (awake7 _).mono ?_; rintro e w3 ⟨rfl, hb3⟩)
    go_ret
    exact ⟨rfl, hb3⟩
end
end Go.Proofs.Ytedapbliebiblaa
