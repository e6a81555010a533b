/- Chapter 7's own cores: New, Set. -/
import Derived.Test.YtgfidbjhihignaaAc3
import Derived.Test.YtgfidbjhihignaaPwMem8
import Derived.RangeFuncBox
import Derived.Laws.AppendOwn
namespace Go.Proofs.Ytgfidbjhihignaa
set_option linter.unusedVariables false
set_option linter.unusedSimpArgs false
open Go.ChangeShapes Go.WideShapes Go.ChangeAt Go.RowKit Go.Shelf

abbrev zTl : Array Value := #[.int .i64 0, .int .i64 0, .int .i64 0, .bool false, .bool false, .int .i64 0, .int .i64 0, .int .i64 0, .bool false, .bool false, .int .i64 0, .int .i64 0, .int .i64 0, .bool false, .bool false, .int .i64 0, .int .i64 0, .int .i64 0, .bool false, .bool false, .int .i64 0, .int .i64 0, .int .i64 0, .bool false, .bool false, .int .i64 0, .int .i64 0, .int .i64 0, .bool false, .bool false, .int .i64 0, .int .i64 0, .int .i64 0, .bool false, .bool false, .int .i64 0, .int .i64 0, .int .i64 0, .bool false, .bool false, .int .i64 0, .int .i64 0, .int .i64 0, .int .i64 0]
theorem zeroTl : ∀ w, (zeroValue 109).run Try.prog w = .ok (.agg zTl) w := fun _ => by kernel_rfl
theorem infoRC : (Try.prog.info? 73).map (fun i => (i.zero, i.size, i.bytes)) = some (some (.agg #[.int .i64 0, .int .i64 0, .pointer none]), 3, 24) := by kernel_rfl
/-- The rows of k cores. -/
def rowRC (P : Nat → Nat) : Nat → List Value
  | 0 => []
  | k + 1 => rowRC P k ++ [.int .i64 (-1), .int .i64 0, .pointer (some ⟨P k, 0, none⟩)]
theorem rowRC_congr (P P' : Nat → Nat) : ∀ k, (∀ i, i < k → P i = P' i) → rowRC P k = rowRC P' k
  | 0, _ => rfl
  | k + 1, h => by unfold rowRC; rw [rowRC_congr P P' k (fun i hi => h i (by omega)), h k (by omega)]
theorem rowRC_len (P : Nat → Nat) : ∀ k, (rowRC P k).length = k * 3
  | 0 => rfl
  | k + 1 => by unfold rowRC; rw [List.length_append, rowRC_len P k]; simp; omega
theorem rowRC_at (P : Nat → Nat) : ∀ k i, i < k → (rowRC P k)[i * 3]? = some (.int .i64 (-1)) ∧ (rowRC P k)[i * 3 + 1]? = some (.int .i64 0) ∧ (rowRC P k)[i * 3 + 2]? = some (.pointer (some ⟨P i, 0, none⟩))
  | 0, i, h => absurd h (by omega)
  | k + 1, i, h => by
    unfold rowRC
    by_cases e : i = k
    · subst e
      rw [List.getElem?_append_right (by rw [rowRC_len]; omega), List.getElem?_append_right (by rw [rowRC_len]; omega), List.getElem?_append_right (by rw [rowRC_len]; omega), rowRC_len]
      rw [show i * 3 - i * 3 = 0 by omega, show i * 3 + 1 - i * 3 = 1 by omega, show i * 3 + 2 - i * 3 = 2 by omega]
      exact ⟨rfl, rfl, rfl⟩
    · rw [List.getElem?_append_left (by rw [rowRC_len]; omega), List.getElem?_append_left (by rw [rowRC_len]; omega), List.getElem?_append_left (by rw [rowRC_len]; omega)]
      exact rowRC_at P k i (by omega)
theorem ownsRow_succ' {w : World} {B k size : Nat} {e : TypeId} {v : Value} {xs : List Value} (h : w.ownsRow B e size v (k + 1) xs) : ∃ g cap, v = .slice (some ⟨g, 0, none⟩) (k + 1) cap := by
  rcases h.2 with ⟨_, h⟩ | ⟨g, cap, cur, rfl, _⟩
  · omega
  · exact ⟨g, cap, rfl⟩
theorem cells_newL (W : World) (cs : List Value) (t : TypeId) : ∀ j u, cs[j]? = some u → (W.alloc (.cells cs.toArray t)).cell? ((⟨W.heap.size, 0, none⟩ : Addr).add j) = some u := fun j u hj => by
  have e : (⟨W.heap.size, 0, none⟩ : Addr).add j = ⟨W.heap.size, j, none⟩ := by unfold Addr.add; simp; omega
  rw [e, cellE]
  simpa using hj
set_option maxRecDepth 100000 in
set_option maxHeartbeats 2000000 in
theorem r7new (w : World) (n : Nat) (h1 : 1 ≤ n) (h3 : n ≤ 3) :
    Calls Try.prog 24 #[.int .i64 n] w fun e w' => ∃ v P, e = .returned (.tuple #[.pointer (some ⟨w.heap.size, 0, none⟩), .int .i64 0]) ∧ Boxed w' w.heap.size 76 v ∧ w'.ownsRow w.heap.size 73 3 v n (rowRC P n) ∧ Below w.heap.size w w' := by
  obtain ⟨i0, hi, hz0, hz1, hz2⟩ := info_parts infoRC
  have hzt := zeroTl
  have n1 : ¬ (n : Int) < 1 := by omega
  have n3 : (n : Int) ≤ 3 := by omega
  go_enter Try.func24, Try.ntmps24
  go_wp2_with (fail)
  go_loopw [5] (fun i wr => ∃ (k : Nat) (v : Value) (P : Nat → Nat), k ≤ n ∧ i = .int .i64 k ∧ Hid (Boxed wr w.heap.size 76 v) ∧ Hid (wr.ownsRow w.heap.size 73 3 v k (rowRC P k)) ∧ Below w.heap.size w wr) (fun i _ => n - (intOf i).toNat)
  case atStart => exact ⟨0, _, fun _ => 0, by omega, rfl, Lib.hid (Boxed.new w _ _), Lib.hid (World.ownsRow_nil ..), bal (Below.refl _ _) _⟩
  case round =>
    obtain ⟨k, v, P, hk, rfl, HV, HR, hB⟩ := hrel
    by_cases hlt : k < n
    · have hlt' : (k : Int) < n := by omega
      have hvf := HV.out.frozen
      have hvl := HV.out.lt
      have hbs := hB.size
      have hform := HR.out.2
      rcases hform with ⟨rfl, -⟩ | ⟨gg, cap, cur, rfl, -⟩
      all_goals
        have hvc := HV.out.cell
        have hVa := Lib.hid (HV.out.alloc (.cells zTl 109))
        have hRa := Lib.hid (HR.out.alloc (.cells zTl 109))
        go_wp2_with (at_builtin; refine wpList_append_own _ rfl _ _ 74 rfl w.heap.size 73 i0 _ 3 24 Try.underlying74 hi hz0 hz1 hz2 rfl (by decide) _ k _ rfl (hRa.out.alloc _) ⟨wr.heap.size + 1, 0, none⟩ 1 1 [.int .i64 (-1), .int .i64 0, .pointer (some ⟨wr.heap.size, 0, none⟩)] rfl rfl (by have := cells_newL (wr.alloc (.cells zTl 109)) [.int .i64 (-1), .int .i64 0, .pointer (some ⟨wr.heap.size, 0, none⟩)] 73; simpa using this) (by simp [Value.oneCell']) (by unfold maxLen; omega) (by omega) (by simp; omega) ?_; intro v' w1 hown' hgrow hn2; obtain ⟨g', cap', rfl⟩ := ownsRow_succ' hown'; obtain ⟨hv1, hv2, hr2, hk2, hb2⟩ := hVa.out.appended (tmp := .cells #[.int .i64 (-1), .int .i64 0, .pointer (some ⟨wr.heap.size, 0, none⟩)] 73) (by decide) hRa.out (by simp; omega) (Nat.le_refl _) hown' hgrow; have hc9 := hv1.cell; have hf9 := hv1.frozen)
        refine ⟨⟨k + 1, _, fun i => if i = k then wr.heap.size else P i, by omega, by go_num, Lib.hid hv2, Lib.hid ?_, (bal hB _).trans hb2⟩, by simp [intOf]; omega⟩
        unfold rowRC
        rw [rowRC_congr _ P k (fun i hi => if_neg (by omega)), if_pos rfl]
        exact hr2
    · obtain rfl : k = n := by omega
      go_wp2
      go_ret2
      exact ⟨v, P, rfl, HV.out, HR.out, hB⟩
/-- Chapter 7's own cores: their registers. -/
structure RcAt (w : World) (b g n c : Nat) (R Q : Nat → Int) : Prop where
  hd : w.cell? ⟨b, 0, none⟩ = some (.slice (some ⟨g, 0, none⟩) n c)
  row : ∀ i, i < n → w.cell? ⟨g, i * 3, none⟩ = some (.int .i64 (R i)) ∧ w.cell? ⟨g, i * 3 + 1, none⟩ = some (.int .i64 (Q i))
  free : ∀ j, w.frozen? ⟨g, j, none⟩ = false
  nc : n ≤ c
  ne : b ≠ g
  lb : b < w.heap.size
  lg : g < w.heap.size
theorem RcAt.of_blocks {w w' : World} {b g n c : Nat} {R Q : Nat → Int} (h : RcAt w b g n c R Q) (hs : w.heap.size ≤ w'.heap.size) (e : w'.heap[b]? = w.heap[b]?) (e2 : w'.heap[g]? = w.heap[g]?) : RcAt w' b g n c R Q :=
  ⟨(cell_of_block e).trans h.hd, fun i hi => ⟨(cell_of_block e2).trans (h.row i hi).1, (cell_of_block e2).trans (h.row i hi).2⟩, fun j => (frozen_of_block e2).trans (h.free j), h.nc, h.ne, Nat.lt_of_lt_of_le h.lb hs, Nat.lt_of_lt_of_le h.lg hs⟩
theorem RcAt.call {w w' : World} {b g n c : Nat} {R Q : Nat → Int} (h : RcAt w b g n c R Q) (k : Below w.heap.size w w') : RcAt w' b g n c R Q := h.of_blocks k.size (k.block b h.lb) (k.block g h.lg)
theorem r7new_at (w : World) (n : Nat) (h1 : 1 ≤ n) (h3 : n ≤ 3) :
    Calls Try.prog 24 #[.int .i64 n] w fun e w' => ∃ b g c, e = .returned (.tuple #[.pointer (some ⟨b, 0, none⟩), .int .i64 0]) ∧ RcAt w' b g n c (fun _ => -1) (fun _ => 0) ∧ w.heap.size ≤ b ∧ w.heap.size ≤ g ∧ Below w.heap.size w w' := by
  refine (r7new w n h1 h3).mono ?_
  rintro e w' ⟨v, P, rfl, hv, hr, hb⟩
  have hne := hv.not_row (by decide) hr
  obtain ⟨g, c, rfl, hc1, hc2, hg1, hg2, hfz, hcs⟩ := own_form hr (by omega)
  refine ⟨_, g, c, rfl, ⟨hv.cell, fun i hi => ?_, hfz, hc1, fun e => hne (by simp [Value.ownBlock, e]), hv.lt, hg2⟩, Nat.le_refl _, hg1, hb⟩
  obtain ⟨a0, a1, -⟩ := rowRC_at P n i hi
  exact ⟨hcs _ _ a0, hcs _ _ a1⟩
theorem r7has (w : World) (b g n c k : Nat) (R Q : Nat → Int) (h : RcAt w b g n c R Q) (hk : k < n) :
    Calls Try.prog 27 #[.pointer (some ⟨b, 0, none⟩), .int .i64 k] w fun e w' => e = .returned (.bool true) ∧ w = w' := by
  have hd := h.hd
  have hk' : (k : Int) < n := by omega
  clear h
  go_enter Try.func27, Try.ntmps27
  go_wp2
  go_ret
  exact ⟨rfl, rfl⟩
set_option maxHeartbeats 1000000 in
theorem r7set (w : World) (b g n c k : Nat) (R Q : Nat → Int) (r s : Int) (h : RcAt w b g n c R Q) (hk : k < n) (r0 : 0 ≤ r) (r1 : r < 64) (s1 : 1 ≤ s) :
    Calls Try.prog 11 #[.pointer (some ⟨b, 0, none⟩), .int .i64 k, .int .i64 r, .int .i64 s] w fun e w' => e = .returned (.int .i64 0) ∧ RcAt w' b g n c (setR R k r) (setR Q k s) ∧ BlkOnly g w w' := by
  have H := Lib.hid h
  have hd := h.hd
  obtain ⟨q0, q1⟩ := h.row k hk
  have hfr := h.free
  have hbg := h.ne
  have hgb := Ne.symm h.ne
  have hk' : (k : Int) < n := by omega
  have hr : ¬ r = -1 := by omega
  have hrb : (r == -1) = false := beq_eq_false_iff_ne.2 hr
  clear h
  go_enter Try.func11, Try.ntmps11
  go_wp2_with (first
    | (go_at_call 27; refine (r7has _ b g n c k R Q H.out hk).mono ?_; rintro e w1 ⟨rfl, rfl⟩))
  go_ret
  refine ⟨rfl, ⟨?_, fun i hi => ?_, fun j => by simp [go_sem, hfr j], H.out.nc, hbg, by simpa using H.out.lb, by simpa using H.out.lg⟩, ((BlkOnly.refl g w).set _ _).set _ _⟩
  · rw [World.cell?_setCell_other _ _ _ _ (by intro e; simp only [Addr.mk.injEq] at e; exact hbg e.1.symm), World.cell?_setCell_other _ _ _ _ (by intro e; simp only [Addr.mk.injEq] at e; exact hbg e.1.symm)]
    exact hd
  · obtain ⟨p0, p1⟩ := H.out.row i hi
    unfold setR
    by_cases e : i = k
    · subst e
      rw [if_pos rfl, if_pos rfl]
      constructor
      · rw [World.cell?_setCell_other _ _ _ _ (by intro e; simp only [Addr.mk.injEq, true_and, and_true] at e; omega)]
        simp [go_sem, p0]
      · simp [go_sem, p1]
    · rw [if_neg e, if_neg e]
      constructor
      · rw [World.cell?_setCell_other _ _ _ _ (by intro e; simp only [Addr.mk.injEq, true_and, and_true] at e; omega), World.cell?_setCell_other _ _ _ _ (by intro e; simp only [Addr.mk.injEq, true_and, and_true] at e; omega)]
        exact p0
      · rw [World.cell?_setCell_other _ _ _ _ (by intro e; simp only [Addr.mk.injEq, true_and, and_true] at e; omega), World.cell?_setCell_other _ _ _ _ (by intro e; simp only [Addr.mk.injEq, true_and, and_true] at e; omega)]
        exact p1
end Go.Proofs.Ytgfidbjhihignaa
