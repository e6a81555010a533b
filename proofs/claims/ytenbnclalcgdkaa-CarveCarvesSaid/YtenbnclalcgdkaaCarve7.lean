/- What CarveCarves asks besides: refusals, the own answer's Carve, OverInts. -/
import Derived.Test.YtenbnclalcgdkaaCarve6
import Derived.OwnWalk
namespace Go.Proofs.Ytenbnclalcgdkaa
set_option linter.unusedVariables false
open Go.ChangeShapes Go.WideShapes Go.ChangeAt Go.RowKit Go.Shelf

theorem grown_cell (w : World) (g i : Nat) (u : Value) : w.grownBy (w.setCell ⟨g, i, none⟩ u) (some g) :=
  ⟨rfl, rfl, rfl, by simp, fun k _ hk => Go.heap_setCell_other _ _ _ _ (fun e => hk (by rw [e]))⟩
theorem grown_trans {a b c : World} {r : Option Nat} (h : a.grownBy b r) (k : b.grownBy c r) : a.grownBy c r :=
  ⟨k.os.trans h.os, k.tape.trans h.tape, k.output.trans h.output, Nat.le_trans h.size k.size, fun j h1 h2 => (k.block j (Nat.lt_of_lt_of_le h1 h.size) h2).trans (h.block j h1 h2)⟩
theorem over_any (g n cap : Nat) (cur : Array Value) (w : World) (hb : w.heap[g]? = some (.cells cur 3 (0, 0))) (hn : n ≤ cap) (h4 : n ≤ 4) (hm : cap ≤ maxLen) (hcur : cur.size = cap) :
    Calls Try.prog 21 #[.slice (some ⟨g, 0, none⟩) n cap] w fun e w' => (∃ v, e = .returned v) ∧ w.grownBy w' (some g) := by
  obtain ⟨i0, hi, hz0, hz1, hz2⟩ := info_parts infoInt
  go_enter Try.func21, Try.ntmps21
  go_wp2
  go_loopw [2] (fun i wr => ∃ (k : Nat) (cs : Array Value), k ≤ n ∧ i = .int .i64 k ∧ wr.heap[g]? = some (.cells cs 3 (0, 0)) ∧ cs.size = cap ∧ w.grownBy wr (some g)) (fun i _ => n - (intOf i).toNat)
  case atStart => exact ⟨0, cur, by omega, rfl, hb, hcur, ⟨rfl, rfl, rfl, Nat.le_refl _, fun _ _ _ => rfl⟩⟩
  case round =>
    obtain ⟨k, cs, hk, rfl, hB, hcs, hg⟩ := hrel
    clear hb
    by_cases hlt : k < n
    · have ck : wr.cell? ⟨g, k, none⟩ = some (cs[k]'(by omega)) := by
        rw [cellQ hB k]; exact Array.getElem?_eq_getElem (by omega)
      have fk : wr.frozen? ⟨g, k, none⟩ = false := by simp [World.frozen?, hB]
      have HB := Lib.hid hB; clear hB
      generalize cs[k]'(by omega) = x at ck
      go_wp2
      go_roundw
      case rel => exact ⟨k + 1, _, by omega, by go_num, Go.heap_setCell_same _ _ _ _ _ _ HB.out, by simp [hcs], ⟨hg.os, hg.tape, hg.output, Nat.le_trans hg.size (grown_cell wr g k _).size, fun j h1 h2 => ((grown_cell wr g k _).block j (Nat.lt_of_lt_of_le h1 hg.size) h2).trans (hg.block j h1 h2)⟩⟩
      case measure => simp [intOf]; omega
    · obtain rfl : k = n := by omega
      have hown : wr.ownsRow 0 3 1 (.slice (some ⟨g, 0, none⟩) k cap) k (cs.toList.take k) := ⟨by simp; omega, .inr ⟨g, cap, cs, rfl, Nat.zero_le _, hB, hn, hm, by omega, by simp⟩⟩
      go_wp2_with (at_builtin; refine wpList_append_own _ rfl _ _ 34 rfl 0 3 i0 (.int .i64 0) 1 8 Try.underlying34 hi hz0 hz1 hz2 rfl (by decide) _ _ _ rfl (hown.alloc _) ⟨wr.heap.size, 0, none⟩ 1 1 [.int .i64 (-999)] rfl rfl (cell_one_new _ _ _) (by simp [Value.oneCell']) (by unfold maxLen; omega) (by omega) (by omega) ?_; intro v' w1 hown' hgrow _)
      go_end0
      exact ⟨⟨_, rfl⟩, grown_trans (grown_trans hg (World.grownBy_alloc wr _ _)) hgrow⟩
theorem over_nil (w : World) : Calls Try.prog 21 #[.slice none 0 0] w fun e w' => (∃ v, e = .returned v) ∧ Below w.heap.size w w' := by
  obtain ⟨i0, hi, hz0, hz1, hz2⟩ := info_parts infoInt
  go_enter Try.func21, Try.ntmps21
  go_wp2
  refine wp_loop_rounds 1 ?_
  rw [rounds_succ]
  go_wp2_with (at_builtin; refine wpList_append_own _ rfl _ _ 34 rfl w.heap.size 3 i0 (.int .i64 0) 1 8 Try.underlying34 hi hz0 hz1 hz2 rfl (by decide) _ _ _ rfl ((World.ownsRow_nil w w.heap.size 3 1).alloc _) ⟨w.heap.size, 0, none⟩ 1 1 [.int .i64 (-999)] rfl rfl (cell_one_new _ _ _) (by simp [Value.oneCell']) (by unfold maxLen; omega) (by omega) (by simp) ?_; intro v' w1 hown' hgrow _)
  go_end0
  exact ⟨⟨_, rfl⟩, (bal (Below.refl _ _) _).grown hgrow (by simp) (fun j ej => by cases (show (none : Option Nat) = some j from ej))⟩
theorem carve_arg1 (t m e c : Int) (w : World) (h : ¬ (0 ≤ t ∧ t ≤ 64 ∧ 0 ≤ m ∧ m ≤ t)) :
    Calls Try.prog 18 #[.int .i64 t, .int .i64 m, .int .i64 e, .int .i64 c] w fun e' W' => e' = .returned (.tuple #[.slice none 0 0, .int .i64 0, .int .i64 2]) ∧ w = W' := by
  have hd : (decide (t < 0) || decide (64 < t) || decide (m < 0) || decide (t < m)) = true := by simp; omega
  go_enter Try.func18, Try.ntmps18
  go_wp2
  all_goals exact bodyPost_ret (v := .tuple #[.slice none 0 0, .int .i64 0, .int .i64 2]) (by simp [results, Try.results18]) rfl ⟨rfl, rfl⟩
theorem carve_arg2 (t m e c : Int) (w : World) (h0 : 0 ≤ t) (h1 : t ≤ 64) (h2 : 0 ≤ m) (h3 : m ≤ t) (h : ¬ (1 ≤ e ∧ e ≤ 64 ∧ 1 ≤ c ∧ c ≤ 4)) :
    Calls Try.prog 18 #[.int .i64 t, .int .i64 m, .int .i64 e, .int .i64 c] w fun e' W' => e' = .returned (.tuple #[.slice none 0 0, .int .i64 0, .int .i64 2]) ∧ w = W' := by
  have hd : (decide (e < 1) || decide (64 < e) || decide (c < 1) || decide (4 < c)) = true := by simp; omega
  go_enter Try.func18, Try.ntmps18
  go_wp2
  all_goals exact bodyPost_ret (v := .tuple #[.slice none 0 0, .int .i64 0, .int .i64 2]) (by simp [results, Try.results18]) rfl ⟨rfl, rfl⟩
set_option maxHeartbeats 2000000 in
theorem refCarve_yes (t m e p : Int) (c : Nat) (w : World) (hp : c * e = p) (h0 : 0 ≤ t) (h1 : t ≤ 64) (h2 : 0 ≤ m) (h3 : m ≤ t) (h4 : 1 ≤ e) (h5 : e ≤ 64) (h6 : 1 ≤ c) (h7 : c ≤ 4) (h8 : p ≤ t - m) :
    Calls Try.prog 19 #[.int .i64 t, .int .i64 m, .int .i64 e, .int .i64 c] w fun e' W' => ∃ v, e' = .returned (.tuple #[v, .int .i64 (m + p), .int .i64 0]) ∧ W'.ownsRow w.heap.size 3 1 v c ((firsts m e c).map (Value.int .i64)) ∧ Below w.heap.size w W' := by
  obtain ⟨i0, hi, hz0, hz1, hz2⟩ := info_parts infoInt
  go_enter Try.func19, Try.ntmps19
  go_wp2
  go_loopw [11, 12, 13] (fun l at_ i wr => ∃ k : Nat, k ≤ c ∧ i = .int .i64 k ∧ at_ = .int .i64 (m + k * e) ∧ wr.ownsRow w.heap.size 3 1 l k ((firsts m e k).map (Value.int .i64)) ∧ Below w.heap.size w wr) (fun _ _ i _ => c - (intOf i).toNat)
  case atStart => exact ⟨0, by omega, rfl, by simp, World.ownsRow_nil _ _ _ _, Below.refl _ _⟩
  case round =>
    obtain ⟨k, hk, rfl, rfl, hown, hB⟩ := hrel
    by_cases hlt : k < c
    · have hfs := firsts_succ m e k
      have hkl : (firsts m e k).length = k := firsts_len m e k
      have hq1 : ((k + 1 : Nat) : Int) * e = k * e + e := by rw [show ((k + 1 : Nat) : Int) = (k : Int) + 1 by omega, Int.add_mul, Int.one_mul]
      have q1 : (k : Int) * e + e ≤ p := by
        have := Int.mul_le_mul_of_nonneg_right (show (k : Int) + 1 ≤ c by omega) (show 0 ≤ e by omega)
        rw [Int.add_mul, hp] at this; omega
      have q0 : 0 ≤ (k : Int) * e := Int.mul_nonneg (by omega) (by omega)
      have HQ := Lib.hid hq1
      have HF := Lib.hid hfs
      clear hq1 hfs
      generalize hq : (k : Int) * e = q at *
      go_wp2_with (at_builtin; refine wpList_append_own _ rfl _ _ 34 rfl w.heap.size 3 i0 (.int .i64 0) 1 8 Try.underlying34 hi hz0 hz1 hz2 rfl (by decide) _ _ _ rfl (hown.alloc _) ⟨wr.heap.size, 0, none⟩ 1 1 [.int .i64 (m + q)] rfl rfl (cell_one_new _ _ _) (by simp [Value.oneCell']) (by unfold maxLen; omega) (by omega) (by have := hB.size; simp; omega) ?_; intro v' w1 hown' hgrow _)
      go_roundw
      case rel => exact ⟨k + 1, by omega, by go_num, by rw [HQ.out, Int.add_assoc], by rw [HF.out]; simpa using hown', (bal hB _).grown hgrow (by have := hB.size; simp; omega) (fun j ej => (hown.lt j ej).1)⟩
      case measure => simp [intOf]; omega
    · obtain rfl : k = c := by omega
      rw [hp]
      go_wp2
      exact bodyPost_ret (by simp [results, Try.results19]) rfl ⟨_, rfl, hown, hB⟩

set_option maxHeartbeats 2000000 in
theorem refCarve_nomem (t m e p : Int) (c : Nat) (w : World) (hp : c * e = p) (h0 : 0 ≤ t) (h1 : t ≤ 64) (h2 : 0 ≤ m) (h3 : m ≤ t) (h4 : 1 ≤ e) (h5 : e ≤ 64) (h6 : 1 ≤ c) (h7 : c ≤ 4) (h8 : t - m < p) :
    Calls Try.prog 19 #[.int .i64 t, .int .i64 m, .int .i64 e, .int .i64 c] w fun e' W' => e' = .returned (.tuple #[.slice none 0 0, .int .i64 0, .int .i64 7]) ∧ Below w.heap.size w W' := by
  obtain ⟨i0, hi, hz0, hz1, hz2⟩ := info_parts infoInt
  go_enter Try.func19, Try.ntmps19
  go_wp2
  go_loopw [11, 12, 13] (fun l at_ i wr => ∃ k : Nat, k ≤ c ∧ i = .int .i64 k ∧ at_ = .int .i64 (m + k * e) ∧ (k : Int) * e ≤ t - m ∧ wr.ownsRow w.heap.size 3 1 l k ((firsts m e k).map (Value.int .i64)) ∧ Below w.heap.size w wr) (fun _ _ i _ => c - (intOf i).toNat)
  case atStart => exact ⟨0, by omega, rfl, by simp, by simp; omega, World.ownsRow_nil _ _ _ _, Below.refl _ _⟩
  case round =>
    obtain ⟨k, hk, rfl, rfl, hle, hown, hB⟩ := hrel
    by_cases hlt : k < c
    · have hfs := firsts_succ m e k
      have hkl : (firsts m e k).length = k := firsts_len m e k
      have hq1 : ((k + 1 : Nat) : Int) * e = k * e + e := by rw [show ((k + 1 : Nat) : Int) = (k : Int) + 1 by omega, Int.add_mul, Int.one_mul]
      have q0 : 0 ≤ (k : Int) * e := Int.mul_nonneg (by omega) (by omega)
      have HQ := Lib.hid hq1
      have HF := Lib.hid hfs
      clear hq1 hfs
      generalize hq : (k : Int) * e = q at *
      by_cases hroom : q + e ≤ t - m
      · go_wp2_with (at_builtin; refine wpList_append_own _ rfl _ _ 34 rfl w.heap.size 3 i0 (.int .i64 0) 1 8 Try.underlying34 hi hz0 hz1 hz2 rfl (by decide) _ _ _ rfl (hown.alloc _) ⟨wr.heap.size, 0, none⟩ 1 1 [.int .i64 (m + q)] rfl rfl (cell_one_new _ _ _) (by simp [Value.oneCell']) (by unfold maxLen; omega) (by omega) (by have := hB.size; simp; omega) ?_; intro v' w1 hown' hgrow _)
        go_roundw
        case rel => exact ⟨k + 1, by omega, by go_num, by rw [HQ.out, Int.add_assoc], by rw [HQ.out]; exact hroom, by rw [HF.out]; simpa using hown', (bal hB _).grown hgrow (by have := hB.size; simp; omega) (fun j ej => (hown.lt j ej).1)⟩
        case measure => simp [intOf]; omega
      · go_wp2
        exact bodyPost_ret (v := .tuple #[.slice none 0 0, .int .i64 0, .int .i64 7]) (by simp [results, Try.results19]) rfl ⟨rfl, hB⟩
    · obtain rfl : k = c := by omega
      omega
theorem refCarve_arg (t m e c : Int) (w : World) (h : ¬ ((0 ≤ t ∧ t ≤ 64 ∧ 0 ≤ m ∧ m ≤ t) ∧ (1 ≤ e ∧ e ≤ 64 ∧ 1 ≤ c ∧ c ≤ 4))) :
    Calls Try.prog 19 #[.int .i64 t, .int .i64 m, .int .i64 e, .int .i64 c] w fun e' W' => e' = .returned (.tuple #[.slice none 0 0, .int .i64 0, .int .i64 2]) ∧ Below w.heap.size w W' := by
  have hd : (decide (t < 0) || decide (64 < t) || decide (m < 0) || decide (t < m) || decide (e < 1) || decide (64 < e) || decide (c < 1) || decide (4 < c)) = true := by simp; omega
  go_enter Try.func19, Try.ntmps19
  go_wp2
  all_goals exact bodyPost_ret (v := .tuple #[.slice none 0 0, .int .i64 0, .int .i64 2]) (by simp [results, Try.results19]) rfl ⟨rfl, Below.refl _ _⟩
end Go.Proofs.Ytenbnclalcgdkaa
