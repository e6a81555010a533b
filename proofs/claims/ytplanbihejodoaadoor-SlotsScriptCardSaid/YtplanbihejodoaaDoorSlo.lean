/- The slots of nodes: what a table of none and of one node answers. -/
import Derived.Test.YtplanbihejodoaaDoorNil
import Derived.Test.YtplanbihejodoaaDoorCells
import Derived.Lib.Hide
import Derived.LoopN
import Derived.Laws.Rows
import Derived.Laws.AppendOwn
import Derived.OwnWalk
import Derived.Deep.RegionWith
import Derived.Maps.AppendAt
import Derived.Outline
namespace Go.Proofs.YtplanbihejodoaaDoor
set_option linter.unusedVariables false
set_option linter.unusedSimpArgs false
open Go.ChangeShapes Go.WideShapes Go.ChangeAt Go.RowKit Go.Shelf

abbrev sl2 (m : Nat) : Value := .slice (some ⟨m, 0, none⟩) 2 2
/-- The one row of the table, in block g: node 7, its two slots in block m. -/
def RowC (w : World) (g m : Nat) : Prop := w.cell? ⟨g, 0, none⟩ = some (.int .i64 7) ∧ w.cell? ⟨g, 1, none⟩ = some (sl2 m) ∧ g < w.heap.size
theorem RowC.go {w w' : World} {g m : Nat} (h : RowC w g m) (k : Below w.heap.size w w') : RowC w' g m :=
  ⟨(k.cell (p := ⟨g, 0, none⟩) h.2.2).trans h.1, (k.cell (p := ⟨g, 1, none⟩) h.2.2).trans h.2.1, Nat.lt_of_lt_of_le h.2.2 k.size⟩
theorem cmp1 (w : World) (m : Nat) : Calls Tryd.prog 48 #[.agg #[.int .i64 7, sl2 m], .int .i64 7] w fun e w' => e = .returned (.int .i64 0) ∧ Below w.heap.size w w' := by
  go_enter Tryd.func48, Tryd.ntmps48
  go_wp2_with go_in
  go_ret
  exact ⟨by simp, by repeat (first | exact Below.refl _ _ | refine bal ?_ _)⟩
theorem bsf_none (w : World) (k : Int) (f : Value) : Calls Tryd.prog 47 #[.slice none 0 0, .int .i64 k, f] w fun e w' => e = .returned (.tuple #[.int .i64 0, .bool false]) ∧ w = w' := by
  go_enter Tryd.func47, Tryd.ntmps47
  go_wp2
  refine wp_loop_rounds 1 ?_
  rw [rounds_succ]
  go_wp2
  go_ret2
  exact ⟨by simp, rfl⟩
set_option maxRecDepth 100000 in
set_option maxHeartbeats 2000000 in
theorem bsf_one (w : World) (g c m : Nat) (h : RowC w g m) : Calls Tryd.prog 47 #[.slice (some ⟨g, 0, none⟩) 1 c, .int .i64 7, .func (.func 48) #[] #[]] w fun e w' => e = .returned (.tuple #[.int .i64 0, .bool true]) ∧ Below w.heap.size w w' := by
  obtain ⟨c0, c1, hg⟩ := h
  go_enter Tryd.func47, Tryd.ntmps47
  go_wp2
  refine wp_loop_rounds 2 ?_
  rw [rounds_succ]
  go_wp2_with (first
    | (go_at_call 48; refine (cmp1 _ m).mono ?_; rintro e w1 ⟨rfl, hb1⟩; obtain ⟨hc1, hf1⟩ := bcell hb1; have hz1 : g < w1.heap.size := (Nat.lt_of_lt_of_le hg hb1.size)))
  rw [rounds_succ]
  go_wp2_with (first
    | (go_at_call 48; refine (cmp1 _ m).mono ?_; rintro e w2 ⟨rfl, hb2⟩))
  go_ret2
  exact ⟨by simp, bgo hb1 hb2⟩
set_option maxHeartbeats 2000000 in
theorem find_empty (w : World) (b : Nat) (k : Int) (hb : b < w.heap.size) (hc : w.cell? ⟨b, 0, none⟩ = some (.slice none 0 0)) : Calls Tryd.prog 38 #[.pointer (some ⟨b, 0, none⟩), .int .i64 k] w fun e w' => e = .returned (.tuple #[.int .i64 0, .bool false]) ∧ w = w' := by
  go_enter Tryd.func38, Tryd.ntmps38
  go_wp2_with (go_at_call 47; refine (bsf_none _ _ _).mono ?_; rintro e w1 ⟨rfl, rfl⟩)
  go_ret2
  exact ⟨by simp, rfl⟩
/-- A table of one row, in block b. -/
def OneAt (w : World) (b m : Nat) : Prop := ∃ g c : Nat, w.cell? ⟨b, 0, none⟩ = some (.slice (some ⟨g, 0, none⟩) 1 c) ∧ RowC w g m
theorem OneAt.call {w w' : World} {b m : Nat} (h : OneAt w b m) (hb : b < w.heap.size) (k : Below w.heap.size w w') : OneAt w' b m := by
  obtain ⟨g, c, h1, h2⟩ := h
  exact ⟨g, c, (k.cell (p := ⟨b, 0, none⟩) hb).trans h1, h2.go k⟩
set_option maxHeartbeats 2000000 in
theorem get_one (w : World) (b m g c : Nat) (hb : b < w.heap.size) (hc : w.cell? ⟨b, 0, none⟩ = some (.slice (some ⟨g, 0, none⟩) 1 c)) (hr : RowC w g m) : Calls Tryd.prog 27 #[.pointer (some ⟨b, 0, none⟩), .int .i64 7] w fun e w' => e = .returned (.tuple #[.pointer (some ⟨g, 1, none⟩), .bool true]) ∧ Below w.heap.size w w' := by
  have hfind : Calls Tryd.prog 38 #[.pointer (some ⟨b, 0, none⟩), .int .i64 7] w fun e w' => e = .returned (.tuple #[.int .i64 0, .bool true]) ∧ Below w.heap.size w w' := by
    go_enter Tryd.func38, Tryd.ntmps38
    go_wp2_with (go_at_call 47; refine (bsf_one _ g c m hr).mono ?_; rintro e w1 ⟨rfl, hb1⟩)
    go_ret2
    exact ⟨by simp, hb1⟩
  have HF := Lib.hid hfind
  have HR := Lib.hid hr
  clear hfind hr
  go_enter Tryd.func27, Tryd.ntmps27
  go_wp2_with (go_at_call 38; refine HF.out.mono ?_; rintro e w1 ⟨rfl, hb1⟩; obtain ⟨hc1, hf1⟩ := bcell hb1; have hz1 : w.heap.size ≤ w1.heap.size := hb1.size)
  go_ret2
  exact ⟨by simp, hb1⟩
abbrev zrow : Value := .agg #[.int .i64 0, .slice none 0 0]
theorem infoR : (Tryd.prog.info? 86).map (fun i => (i.zero, i.size, i.bytes)) = some (some zrow, 2, 32) := by kernel_rfl
theorem cell_two_new (w : World) (a b : Value) (t : TypeId) : ∀ j u, ([a, b] : List Value)[j]? = some u → (w.alloc (.cells #[a, b] t)).cell? ((⟨w.heap.size, 0, none⟩ : Addr).add j) = some u := by
  intro j u hj
  have h := World.alloc_heap_new w (.cells #[a, b] t)
  have e : ((⟨w.heap.size, 0, none⟩ : Addr).add j) = ⟨w.heap.size, j, none⟩ := by unfold Addr.add; split <;> simp_all
  rw [e, cell_of_row _ _ _ _ _ _ h]
  simpa using hj
set_option maxHeartbeats 2000000 in
theorem insert_first (w : World) (n m : Nat) (hc : ∀ j v, ([.int .i64 7, sl2 m] : List Value)[j]? = some v → w.cell? ((⟨n, 0, none⟩ : Addr).add j) = some v) :
    Calls Tryd.prog 39 #[.slice none 0 0, .int .i64 0, .slice (some ⟨n, 0, none⟩) 1 1] w fun e w' =>
      ∃ g c : Nat, e = .returned (.slice (some ⟨g, 0, none⟩) 1 c) ∧ w.heap.size ≤ g ∧ RowC w' g m ∧ Below w.heap.size w w' := by
  obtain ⟨i0, hi, hz0, hz1, hz2⟩ := info_parts infoR
  have HC := Lib.hid hc
  have HI := Lib.hid hi
  clear hc hi
  go_enter Tryd.func39, Tryd.ntmps39
  go_wp2_with (at_builtin; refine wpList_append_own _ rfl _ _ 59 rfl w.heap.size 86 i0 zrow 2 32 Tryd.underlying59 HI.out hz0 hz1 hz2 rfl (by decide) (.slice none 0 0) 0 [] rfl (World.ownsRow_nil w w.heap.size 86 2) ⟨n, 0, none⟩ 1 1 [.int .i64 7, sl2 m] rfl rfl HC.out (by simp [Value.oneCell']) (by unfold maxLen; omega) (by omega) (Nat.le_refl _) ?_; intro v' w1 hown' hgrow _)
  go_ret
  obtain ⟨hl, h | ⟨g, cap, cur, rfl, hg, hblk, h1, h2, h3, h4⟩⟩ := hown'
  · exact absurd h.2 (by omega)
  · have h4' : cur.toList.take 2 = [.int .i64 7, sl2 m] := by simpa using h4
    have hk : ∀ j v, j < 2 → ([.int .i64 7, sl2 m] : List Value)[j]? = some v → w1.cell? ⟨g, j, none⟩ = some v := by
      intro j v hj hv
      rw [cell_of_row _ g j cur _ _ hblk, ← Array.getElem?_toList, ← List.getElem?_take_of_lt hj, h4']
      exact hv
    refine ⟨g, ⟨cap, rfl⟩, hg, ⟨hk 0 _ (by omega) rfl, hk 1 _ (by omega) rfl, (Array.getElem?_eq_some_iff.1 hblk).1⟩, (Below.refl _ _).grown hgrow (Nat.le_refl _) (fun k hk => by cases hk)⟩
end Go.Proofs.YtplanbihejodoaaDoor
