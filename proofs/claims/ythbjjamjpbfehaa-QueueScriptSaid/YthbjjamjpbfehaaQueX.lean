/- The law QueueScript. -/
import Derived.Test.YthbjjamjpbfehaaQueW
import Derived.Test.YthbjjamjpbfehaaKq
import Derived.Deep.RegionHeld3
import Derived.Deep.CutRange
namespace Go.Proofs.Ythbjjamjpbfehaa
set_option linter.unusedVariables false
set_option linter.unusedSimpArgs false
open Go.ChangeShapes Go.WideShapes Go.ChangeAt Go.RowKit Go.Shelf

theorem grown_cell (w : World) (g i : Nat) (u : Value) : w.grownBy (w.setCell ⟨g, i, none⟩ u) (some g) :=
  ⟨rfl, rfl, rfl, by simp, fun k hk hne => Go.heap_setCell_other _ _ _ _ (fun e => hne (by rw [e]))⟩
theorem grown_trans {a b c : World} {r : Option Nat} (h : a.grownBy b r) (k : b.grownBy c r) : a.grownBy c r :=
  ⟨k.os.trans h.os, k.tape.trans h.tape, k.output.trans h.output, Nat.le_trans h.size k.size, fun j hj hne => (k.block j (Nat.lt_of_lt_of_le hj h.size) hne).trans (h.block j hj hne)⟩
theorem grown_below {a b : World} {g B : Nat} (h : a.grownBy b (some g)) (hg : B ≤ g) (hB : B ≤ a.heap.size) : Below B a b :=
  ⟨h.os, h.tape, h.output, h.size, fun k hk => h.block k (by omega) (fun e => by injection e with e; omega)⟩
set_option maxHeartbeats 1000000 in
theorem over_row (w : World) (B : Nat) (v : Value) (n : Nat) (xs : List Value) (hr : w.ownsRow B 3 1 v n xs) (hn : n ≤ 200) (hB : B ≤ w.heap.size) :
    Calls Try.prog 22 #[v] w fun e w' => (∃ u, e = .returned u) ∧ Below B w w' := by
  obtain ⟨i0, hi, hz0, hz1, hz2⟩ := info_parts infoI
  have HI := Lib.hid hi
  clear hi
  obtain ⟨hl, ⟨rfl, rfl⟩ | ⟨g, cap, cur, rfl, hg, hb, hnc, hm, hcur, h4⟩⟩ := hr
  · go_enter Try.func22, Try.ntmps22
    go_wp2
    refine wp_loop_rounds 1 ?_
    rw [rounds_succ]
    go_wp2_with (at_builtin; refine wpList_append_own _ rfl _ _ 39 rfl w.heap.size 3 i0 (.int .i64 0) 1 8 Try.underlying39 HI.out hz0 hz1 hz2 rfl (by decide) _ _ _ rfl ((World.ownsRow_nil w w.heap.size 3 1).alloc _) ⟨w.heap.size, 0, none⟩ 1 1 [.int .i64 (-999)] rfl rfl (Go.cell_one_new _ _ _) (by simp [Value.oneCell']) (by unfold maxLen; omega) (by omega) (by simp) ?_; intro v' w1 hown' hgrow _)
    go_end0
    exact ⟨⟨_, rfl⟩, Below.mono (B' := B) ((bal (Below.refl _ _) _).grown hgrow (by simp) (fun j ej => by cases (show (none : Option Nat) = some j from ej))) hB⟩
  · have hcur' : cur.size = cap := by omega
    have hn' : (n : Int) ≤ 200 := by omega
    unfold maxLen at hm
    clear hcur
    go_enter Try.func22, Try.ntmps22
    go_wp2
    go_loopw [2] (fun i wr => ∃ (k : Nat) (cs : Array Value), k ≤ n ∧ i = .int .i64 k ∧ wr.heap[g]? = some (.cells cs 3 (0, 0)) ∧ cs.size = cap ∧ w.grownBy wr (some g)) (fun i _ => n - (intOf i).toNat)
    case atStart => exact ⟨0, cur, by omega, rfl, hb, hcur', ⟨rfl, rfl, rfl, Nat.le_refl _, fun _ _ _ => rfl⟩⟩
    case round =>
      obtain ⟨k, cs, hk, rfl, hB2, hcs, hgr⟩ := hrel
      clear hb
      by_cases hlt : k < n
      · have hlt' : (k : Int) < n := by omega
        have ck : wr.cell? ⟨g, k, none⟩ = some (cs[k]'(by omega)) := by
          rw [cell_of_row _ g k _ _ _ hB2]; exact Array.getElem?_eq_getElem (by omega)
        have fk : wr.frozen? ⟨g, k, none⟩ = false := by simp [World.frozen?, hB2]
        have HB := Lib.hid hB2; clear hB2
        generalize cs[k]'(by omega) = x at ck
        go_wp2
        go_roundw
        case rel => exact ⟨k + 1, _, by omega, by go_num, Go.heap_setCell_same _ _ _ _ _ _ HB.out, by simp [hcs], grown_trans hgr (grown_cell _ _ _ _)⟩
        case measure => simp [intOf]; omega
      · obtain rfl : k = n := by omega
        have hown : wr.ownsRow 0 3 1 (.slice (some ⟨g, 0, none⟩) k cap) k (cs.toList.take k) := ⟨by simp; omega, .inr ⟨g, cap, cs, rfl, Nat.zero_le _, hB2, by omega, by unfold maxLen; omega, by omega, by simp⟩⟩
        go_wp2_with (at_builtin; refine wpList_append_own _ rfl _ _ 39 rfl 0 3 i0 (.int .i64 0) 1 8 Try.underlying39 HI.out hz0 hz1 hz2 rfl (by decide) _ _ _ rfl (hown.alloc _) ⟨wr.heap.size, 0, none⟩ 1 1 [.int .i64 (-999)] rfl rfl (Go.cell_one_new _ _ _) (by simp [Value.oneCell']) (by unfold maxLen; omega) (by omega) (by omega) ?_; intro v' w1 hown' hgrow _)
        go_end0
        exact ⟨⟨_, rfl⟩, grown_below (grown_trans (grown_trans hgr (World.grownBy_alloc wr _ _)) hgrow) hg hB⟩
theorem same0 (w : World) (p q : Option Addr) (c d : Nat) : Calls Try.prog 21 #[.slice p 0 c, .slice q 0 d] w fun e w' => e = .returned (.bool true) ∧ Below w.heap.size w w' := by
  go_enter Try.func21, Try.ntmps21
  go_wp2
  refine wp_loop_rounds 1 ?_
  rw [rounds_succ]
  go_wp2
  go_ret
  exact ⟨rfl, Below.refl _ _⟩
theorem same_rows (w : World) (B B' n : Nat) (p q : Option Addr) (c d : Nat) (xs : List Int) (hn : n ≤ 200) (hx : xs.length = n) (h : w.ownsRow B 3 1 (.slice p n c) n (xs.map (Value.int .i64))) (h' : w.ownsRow B' 3 1 (.slice q n d) n (xs.map (Value.int .i64))) :
    Calls Try.prog 21 #[.slice p n c, .slice q n d] w fun e w' => e = .returned (.bool true) ∧ Below w.heap.size w w' := by
  by_cases h0 : 0 < n
  · obtain ⟨-, -, r1⟩ := row_place h
    obtain ⟨-, -, r2⟩ := row_place h'
    obtain ⟨g1, rfl, -, -, c1⟩ := r1 h0
    obtain ⟨g2, rfl, -, -, c2⟩ := r2 h0
    have hg : ∀ k, k < n → (xs.map (Value.int .i64))[k]? = some (.int .i64 (xs.getD k 0)) := fun k hk => by
      rw [List.getElem?_map, List.getElem?_eq_getElem (by omega)]
      simp [List.getD, List.getElem?_eq_getElem (show k < xs.length by omega)]
    exact same_yes g1 g2 n c d xs w (by omega) (fun k hk => c1 k _ (hg k hk)) (fun k hk => c2 k _ (hg k hk))
  · obtain rfl : n = 0 := by omega
    exact same0 _ _ _ _ _
theorem ins_length : ∀ (R : List (Int × Nat)) (x : Int) (p : Nat), (insR R x p).length = R.length + 1 := by
  intro R x p
  have h : ∀ L : List (Int × Nat), (L.filter (fun e => decide (p ≤ e.2))).length + (L.filter (fun e => decide (e.2 < p))).length = L.length := by
    intro L
    induction L with
    | nil => rfl
    | cons e t ih =>
      by_cases c : p ≤ e.2
      · rw [List.filter_cons_of_pos (by simpa using c), List.filter_cons_of_neg (by simp; omega)]
        simp only [List.length_cons]; omega
      · rw [List.filter_cons_of_neg (by simpa using c), List.filter_cons_of_pos (by simp; omega)]
        simp only [List.length_cons]; omega
  unfold insR
  rw [List.length_append, List.length_cons]
  have := h R
  omega
theorem addR_len (R : List (Int × Nat)) (x p : Int) : (addR R x p).length ≤ R.length + 1 := by
  unfold addR
  split
  · rw [ins_length]; omega
  · omega
theorem backR_len (R : List (Int × Nat)) (x : Int) : (backR R x).length ≤ R.length + 1 := by
  unfold backR
  split
  · omega
  · rw [ins_length]; have := drop_len R x; omega
/-- Both queues stand as R. -/
structure SQ (N : Nat) (w : World) (k rb : Nat) (vs : Nat → Value) (rv : Value) (R : List (Int × Nat)) : Prop where
  q : QR w N (N + 1) N k vs R
  r : RefQ w N rb rv R
  f : Free w (N + 1) N vs rb
  g : ∀ g, rv.ownBlock = some g → Free w (N + 1) N vs g
  n : N ≤ rb
theorem SQ.call {N k rb : Nat} {w w' : World} {vs : Nat → Value} {rv : Value} {R : List (Int × Nat)} (h : SQ N w k rb vs rv R) (b : Below w.heap.size w w') : SQ N w' k rb vs rv R :=
  ⟨h.q.call b, h.r.call b, h.f.more b.size, fun g hg => (h.g g hg).more b.size, h.n⟩
theorem QR.keepR {w w' : World} {N n rb : Nat} {vs : Nat → Value} {R : List (Int × Nat)} (h : QR w N (N + 1) N n vs R) (hf : Free w (N + 1) N vs rb) (ho : ROnly rb w w') : QR w' N (N + 1) N n vs R := by
  obtain ⟨m, hm, h, g⟩ := h
  obtain ⟨h1, h2, h3, h4⟩ := hf
  have hl := h.lt
  have hml := h.map.lt
  refine ⟨m, hm, ?_, g⟩
  have e1 := ho.block (N + 1) hl.2 (Ne.symm h2)
  have e2 := ho.block N hml (Ne.symm h3)
  exact ⟨⟨hl.1, Nat.lt_of_lt_of_le hl.2 ho.size⟩, h.mlt, h.ne, fun j hj => (cell_of_block e1).trans (h.cell j hj), fun j => (frozen_of_block e1).trans (h.free j), (cell_of_block e1).trans h.mcell,
    fun j hj => row_of_block (h.row j hj) (fun g hg => ho.block g ((h.row j hj).lt g hg).2 (fun e => h4 j hj (e ▸ hg))), h.rb, h.apart, h.len, h.map.of_block e2⟩
theorem SQ.qop {N k rb : Nat} {w w' : World} {vs vs' : Nat → Value} {rv : Value} {R : List (Int × Nat)} (h : SQ N w k rb vs rv R) (o : QOnly w w' (N + 1) N vs vs') :
    RefQ w' N rb rv R ∧ Free w' (N + 1) N vs' rb ∧ (∀ g, rv.ownBlock = some g → Free w' (N + 1) N vs' g) ∧ Below N w w' := by
  obtain ⟨e1, f1⟩ := h.f.keep o
  exact ⟨h.r.of_blocks o.size e1 (fun g hg => ((h.g g hg).keep o).1), f1, fun g hg => ((h.g g hg).keep o).2, h.q.below o⟩
theorem SQ.rop {N k rb : Nat} {w w' : World} {vs : Nat → Value} {rv rv' : Value} {R : List (Int × Nat)} (hq : QR w N (N + 1) N k vs R) (hf : Free w (N + 1) N vs rb) (hg : ∀ g, rv.ownBlock = some g → Free w (N + 1) N vs g) (hn : N ≤ rb) (hr : RefQ w' N rb rv' R) (o : ROnly rb w w') (ha : NewAt w rv rv') : SQ N w' k rb vs rv' R := by
  refine ⟨hq.keepR hf o, hr, hf.more o.size, fun g hg' => ?_, hn⟩
  rcases ha with ha | ha
  · exact (hg g (ha ▸ hg')).more o.size
  · exact hq.free (ha g hg') (hr.row.lt g hg').2
end Go.Proofs.Ythbjjamjpbfehaa
