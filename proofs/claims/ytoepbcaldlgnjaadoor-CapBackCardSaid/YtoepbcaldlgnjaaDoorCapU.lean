/- Lists of words written over; an error as a number; lists that are nil. -/
import Derived.Test.YtoepbcaldlgnjaaDoorCapK
import Derived.Maps.AppendAt
import Derived.OwnWalk
namespace Go.Proofs.YtoepbcaldlgnjaaDoor
set_option linter.unusedVariables false
set_option linter.unusedSimpArgs false
open Go.ChangeShapes Go.WideShapes Go.ChangeAt Go.RowKit Go.Shelf

theorem infoW : (Tryd.prog.info? 22).map (fun i => (i.zero, i.size, i.bytes)) = some (some (.int .u64 0), 1, 8) := by kernel_rfl
theorem grown_cell (w : World) (g i : Nat) (u : Value) : w.grownBy (w.setCell ⟨g, i, none⟩ u) (some g) :=
  ⟨rfl, rfl, rfl, by simp, fun k hk hne => Go.heap_setCell_other _ _ _ _ (fun e => hne (by rw [e]))⟩
theorem grown_trans {a b c : World} {r : Option Nat} (h : a.grownBy b r) (k : b.grownBy c r) : a.grownBy c r :=
  ⟨k.os.trans h.os, k.tape.trans h.tape, k.output.trans h.output, Nat.le_trans h.size k.size, fun j hj hne => (k.block j (Nat.lt_of_lt_of_le hj h.size) hne).trans (h.block j hj hne)⟩
theorem grown_below {a b : World} {g B : Nat} (h : a.grownBy b (some g)) (hg : B ≤ g) (hB : B ≤ a.heap.size) : Below B a b :=
  ⟨h.os, h.tape, h.output, h.size, fun k hk => h.block k (by omega) (fun e => by injection e with e; omega)⟩
theorem over2_any (w : World) (g n cap : Nat) (cur : Array Value) (hb : w.heap[g]? = some (.cells cur 22 (0, 0))) (hcur : cur.size = cap) (hn : n ≤ cap) (hm : cap ≤ 100) (h0 : 0 < n) :
    Calls Tryd.prog 13 #[.slice (some ⟨g, 0, none⟩) n cap] w fun e w' => (∃ u, e = .returned u) ∧ w.grownBy w' (some g) := by
  obtain ⟨i0, hi, hz0, hz1, hz2⟩ := info_parts infoW
  have HI := Lib.hid hi
  clear hi
  go_enter Tryd.func13, Tryd.ntmps13
  go_wp2
  go_loopw [2] (fun i wr => ∃ (k : Nat) (cs : Array Value), k ≤ n ∧ i = .int .i64 k ∧ wr.heap[g]? = some (.cells cs 22 (0, 0)) ∧ cs.size = cap ∧ w.grownBy wr (some g)) (fun i _ => n - (intOf i).toNat)
  case atStart => exact ⟨0, cur, by omega, rfl, hb, hcur, ⟨rfl, rfl, rfl, Nat.le_refl _, fun _ _ _ => rfl⟩⟩
  case round =>
    obtain ⟨k, cs, hk, rfl, hB, hcs, hgr⟩ := hrel
    clear hb
    by_cases hlt : k < n
    · have ck : wr.cell? ⟨g, k, none⟩ = some (cs[k]'(by omega)) := by
        rw [cell_of_row _ g k _ _ _ hB]; exact Array.getElem?_eq_getElem (by omega)
      have fk : wr.frozen? ⟨g, k, none⟩ = false := by simp [World.frozen?, hB]
      have HB := Lib.hid hB; clear hB
      generalize cs[k]'(by omega) = x at ck
      go_wp2
      go_roundw
      case rel => exact ⟨k + 1, _, by omega, by go_num, Go.heap_setCell_same _ _ _ _ _ _ HB.out, by simp [hcs], grown_trans hgr (grown_cell _ _ _ _)⟩
      case measure => simp [intOf]; omega
    · obtain rfl : k = n := by omega
      have hown : wr.ownsRow 0 22 1 (.slice (some ⟨g, 0, none⟩) k cap) k (cs.toList.take k) := ⟨by simp; omega, .inr ⟨g, cap, cs, rfl, Nat.zero_le _, hB, by omega, by unfold maxLen; omega, by omega, by simp⟩⟩
      go_wp2_with (at_builtin; refine wpList_append_own _ rfl _ _ 25 rfl 0 22 i0 (.int .u64 0) 1 8 Tryd.underlying25 HI.out hz0 hz1 hz2 rfl (by decide) _ _ _ rfl (hown.alloc _) ⟨wr.heap.size, 0, none⟩ 1 1 [.int .u64 3735928559] rfl rfl (Go.cell_one_new _ _ _) (by simp [Value.oneCell']) (by unfold maxLen; omega) (by omega) (by omega) ?_; intro v' w1 hown' hgrow _)
      go_end0
      exact ⟨⟨_, rfl⟩, grown_trans (grown_trans hgr (World.grownBy_alloc wr _ _)) hgrow⟩
theorem over_nil (w : World) : Calls Tryd.prog 13 #[.slice none 0 0] w fun e w' => (∃ v, e = .returned v) ∧ Below w.heap.size w w' := by
  obtain ⟨i0, hi, hz0, hz1, hz2⟩ := info_parts infoW
  have HI := Lib.hid hi
  clear hi
  go_enter Tryd.func13, Tryd.ntmps13
  go_wp2
  refine wp_loop_rounds 1 ?_
  rw [rounds_succ]
  go_wp2_with (at_builtin; refine wpList_append_own _ rfl _ _ 25 rfl w.heap.size 22 i0 (.int .u64 0) 1 8 Tryd.underlying25 HI.out hz0 hz1 hz2 rfl (by decide) _ _ _ rfl ((World.ownsRow_nil w w.heap.size 22 1).alloc _) ⟨w.heap.size, 0, none⟩ 1 1 [.int .u64 3735928559] rfl rfl (Go.cell_one_new _ _ _) (by simp [Value.oneCell']) (by unfold maxLen; omega) (by omega) (by simp) ?_; intro v' w1 hown' hgrow _)
  go_end0
  exact ⟨⟨_, rfl⟩, (bal (Below.refl _ _) _).grown hgrow (by simp) (fun j ej => by cases (show (none : Option Nat) = some j from ej))⟩
theorem same_nil (w : World) : Calls Tryd.prog 9 #[.slice none 0 0, .slice none 0 0] w fun e w' => e = .returned (.bool true) ∧ w' = w := by
  go_enter Tryd.func9, Tryd.ntmps9
  go_wp2
  refine wp_loop_rounds 1 ?_
  rw [rounds_succ]
  go_wp2
  go_ret
  exact ⟨rfl, rfl⟩
theorem num_c (a : Int) (w : World) (h : 0 ≤ a ∧ a ≤ 100) : Calls Tryd.prog 10 #[.int .i64 a] w fun e w' => e = .returned (.int .i64 a) ∧ w' = w := by
  obtain ⟨h0, h1⟩ := h
  go_enter Tryd.func10, Tryd.ntmps10
  go_wp2
  go_ret
  exact ⟨rfl, rfl⟩
theorem capAt.grown {k g : Nat} {w w' : World} {a b c d e f g' h : Int} (q : capAt w k a b c d e f g' h) (hk : k < w.heap.size) (hg : k < g) (hb : w.grownBy w' (some g)) : capAt w' k a b c d e f g' h :=
  q.kept (n := k + 1) (by omega) ⟨grown_below hb (by omega) (by omega), by have := hb.size; omega⟩
theorem Row2.grown {w w' : World} {G g : Nat} {x y : Int} (h : Row2 w G x y) (hb : w.grownBy w' (some g)) (hne : G ≠ g) : Row2 w' G x y := (hb.block G h.lt (fun e => by injection e with e; exact hne e)).trans h
end Go.Proofs.YtoepbcaldlgnjaaDoor
