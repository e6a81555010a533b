/- The endpoints: what a table of none and of one endpoint answers. -/
import Derived.Test.YtmbjaemflmbljaaNil
import Derived.Test.YtmbjaemflmbljaaCells
import Derived.Lib.Hide
import Derived.LoopN
import Derived.Laws.Rows
import Derived.Laws.AppendOwn
import Derived.OwnWalk
import Derived.Deep.RegionWith
import Derived.Maps.AppendAt
import Derived.Outline
namespace Go.Proofs.Ytmbjaemflmbljaa
set_option linter.unusedVariables false
set_option linter.unusedSimpArgs false
open Go.ChangeShapes Go.WideShapes Go.ChangeAt Go.RowKit Go.Shelf

/-- The one row of the table, in block g: endpoint 6, the list of who waits, and whether they send. -/
def RowE (w : World) (g : Nat) (p : Option Addr) (n c : Nat) (sd : Bool) : Prop := w.cell? ⟨g, 0, none⟩ = some (.int .i64 6) ∧ w.cell? ⟨g, 1, none⟩ = some (.slice p n c) ∧ w.cell? ⟨g, 2, none⟩ = some (.bool sd) ∧ g < w.heap.size
theorem RowE.go {w w' : World} {g : Nat} {p : Option Addr} {n c : Nat} {sd : Bool} (h : RowE w g p n c sd) (k : Below w.heap.size w w') : RowE w' g p n c sd :=
  ⟨(k.cell (p := ⟨g, 0, none⟩) h.2.2.2).trans h.1, (k.cell (p := ⟨g, 1, none⟩) h.2.2.2).trans h.2.1, (k.cell (p := ⟨g, 2, none⟩) h.2.2.2).trans h.2.2.1, Nat.lt_of_lt_of_le h.2.2.2 k.size⟩
theorem cmp1 (w : World) (p : Option Addr) (n c : Nat) (sd : Bool) : Calls Try.prog 39 #[.agg #[.int .i64 6, .slice p n c, .bool sd], .int .i64 6] w fun e w' => e = .returned (.int .i64 0) ∧ Below w.heap.size w w' := by
  go_enter Try.func39, Try.ntmps39
  go_wp2_with go_in
  go_ret
  exact ⟨by simp, by repeat (first | exact Below.refl _ _ | refine bal ?_ _)⟩
theorem bsf_none (w : World) (k : Int) (f : Value) : Calls Try.prog 38 #[.slice none 0 0, .int .i64 k, f] w fun e w' => e = .returned (.tuple #[.int .i64 0, .bool false]) ∧ w = w' := by
  go_enter Try.func38, Try.ntmps38
  go_wp2
  refine wp_loop_rounds 1 ?_
  rw [rounds_succ]
  go_wp2
  go_ret2
  exact ⟨by simp, rfl⟩
set_option maxRecDepth 100000 in
set_option maxHeartbeats 2000000 in
theorem bsf_one (w : World) (g c : Nat) (p : Option Addr) (n cc : Nat) (sd : Bool) (h : RowE w g p n cc sd) : Calls Try.prog 38 #[.slice (some ⟨g, 0, none⟩) 1 c, .int .i64 6, .func (.func 39) #[] #[]] w fun e w' => e = .returned (.tuple #[.int .i64 0, .bool true]) ∧ Below w.heap.size w w' := by
  obtain ⟨c0, c1, c2, hg⟩ := h
  go_enter Try.func38, Try.ntmps38
  go_wp2
  refine wp_loop_rounds 2 ?_
  rw [rounds_succ]
  go_wp2_with (first
    | (go_at_call 39; refine (cmp1 _ p n cc sd).mono ?_; rintro e w1 ⟨rfl, hb1⟩; obtain ⟨hc1, hf1⟩ := bcell hb1; have hz1 : g < w1.heap.size := (Nat.lt_of_lt_of_le hg hb1.size)))
  rw [rounds_succ]
  go_wp2_with (first
    | (go_at_call 39; refine (cmp1 _ p n cc sd).mono ?_; rintro e w2 ⟨rfl, hb2⟩))
  go_ret2
  exact ⟨by simp, bgo hb1 hb2⟩
set_option maxHeartbeats 2000000 in
theorem find_empty (w : World) (b : Nat) (k : Int) (hb : b < w.heap.size) (hc : w.cell? ⟨b, 0, none⟩ = some (.slice none 0 0)) : Calls Try.prog 33 #[.pointer (some ⟨b, 0, none⟩), .int .i64 k] w fun e w' => e = .returned (.tuple #[.int .i64 0, .bool false]) ∧ w = w' := by
  go_enter Try.func33, Try.ntmps33
  go_wp2_with (go_at_call 38; refine (bsf_none _ _ _).mono ?_; rintro e w1 ⟨rfl, rfl⟩)
  go_ret2
  exact ⟨by simp, rfl⟩
set_option maxHeartbeats 2000000 in
theorem get_one (w : World) (b g c : Nat) (p : Option Addr) (n cc : Nat) (sd : Bool) (hb : b < w.heap.size) (hc : w.cell? ⟨b, 0, none⟩ = some (.slice (some ⟨g, 0, none⟩) 1 c)) (hr : RowE w g p n cc sd) : Calls Try.prog 28 #[.pointer (some ⟨b, 0, none⟩), .int .i64 6] w fun e w' => e = .returned (.tuple #[.pointer (some ⟨g, 1, none⟩), .bool true]) ∧ Below w.heap.size w w' := by
  have hfind : Calls Try.prog 33 #[.pointer (some ⟨b, 0, none⟩), .int .i64 6] w fun e w' => e = .returned (.tuple #[.int .i64 0, .bool true]) ∧ Below w.heap.size w w' := by
    go_enter Try.func33, Try.ntmps33
    go_wp2_with (go_at_call 38; refine (bsf_one _ g c p n cc sd hr).mono ?_; rintro e w1 ⟨rfl, hb1⟩)
    go_ret2
    exact ⟨by simp, hb1⟩
  have HF := Lib.hid hfind
  have HR := Lib.hid hr
  clear hfind hr
  go_enter Try.func28, Try.ntmps28
  go_wp2_with (go_at_call 33; refine HF.out.mono ?_; rintro e w1 ⟨rfl, hb1⟩; obtain ⟨hc1, hf1⟩ := bcell hb1; have hz1 : w.heap.size ≤ w1.heap.size := hb1.size)
  go_ret2
  exact ⟨by simp, hb1⟩
abbrev zrow : Value := .agg #[.int .i64 0, .slice none 0 0, .bool false]
theorem infoR : (Try.prog.info? 80).map (fun i => (i.zero, i.size, i.bytes)) = some (some zrow, 3, 40) := by kernel_rfl
theorem cell_three_new (w : World) (a b c : Value) (t : TypeId) : ∀ j u, ([a, b, c] : List Value)[j]? = some u → (w.alloc (.cells #[a, b, c] t)).cell? ((⟨w.heap.size, 0, none⟩ : Addr).add j) = some u := by
  intro j u hj
  have h := World.alloc_heap_new w (.cells #[a, b, c] t)
  have e : ((⟨w.heap.size, 0, none⟩ : Addr).add j) = ⟨w.heap.size, j, none⟩ := by unfold Addr.add; split <;> simp_all
  rw [e, cell_of_row _ _ _ _ _ _ h]
  simpa using hj
set_option maxHeartbeats 2000000 in
theorem insert_first (w : World) (n : Nat) (hc : ∀ j v, ([.int .i64 6, .slice none 0 0, .bool false] : List Value)[j]? = some v → w.cell? ((⟨n, 0, none⟩ : Addr).add j) = some v) :
    Calls Try.prog 34 #[.slice none 0 0, .int .i64 0, .slice (some ⟨n, 0, none⟩) 1 1] w fun e w' =>
      ∃ g c : Nat, e = .returned (.slice (some ⟨g, 0, none⟩) 1 c) ∧ w.heap.size ≤ g ∧ RowE w' g none 0 0 false ∧ Below w.heap.size w w' ∧ ∀ j, w'.frozen? ⟨g, j, none⟩ = false := by
  obtain ⟨i0, hi, hz0, hz1, hz2⟩ := info_parts infoR
  have HC := Lib.hid hc
  have HI := Lib.hid hi
  clear hc hi
  go_enter Try.func34, Try.ntmps34
  go_wp2_with (at_builtin; refine wpList_append_own _ rfl _ _ 55 rfl w.heap.size 80 i0 zrow 3 40 Try.underlying55 HI.out hz0 hz1 hz2 rfl (by decide) (.slice none 0 0) 0 [] rfl (World.ownsRow_nil w w.heap.size 80 3) ⟨n, 0, none⟩ 1 1 [.int .i64 6, .slice none 0 0, .bool false] rfl rfl HC.out (by simp [Value.oneCell']) (by unfold maxLen; omega) (by omega) (Nat.le_refl _) ?_; intro v' w1 hown' hgrow _)
  go_ret
  obtain ⟨hl, h | ⟨g, cap, cur, rfl, hg, hblk, h1, h2, h3, h4⟩⟩ := hown'
  · exact absurd h.2 (by omega)
  · have h4' : cur.toList.take 3 = [.int .i64 6, .slice none 0 0, .bool false] := by simpa using h4
    have hk : ∀ j v, j < 3 → ([.int .i64 6, .slice none 0 0, .bool false] : List Value)[j]? = some v → w1.cell? ⟨g, j, none⟩ = some v := by
      intro j v hj hv
      rw [cell_of_row _ g j cur _ _ hblk, ← Array.getElem?_toList, ← List.getElem?_take_of_lt hj, h4']
      exact hv
    refine ⟨g, ⟨cap, rfl⟩, hg, ⟨hk 0 _ (by omega) rfl, hk 1 _ (by omega) rfl, hk 2 _ (by omega) rfl, (Array.getElem?_eq_some_iff.1 hblk).1⟩, (Below.refl _ _).grown hgrow (Nat.le_refl _) (fun k hk => by cases hk), fun j => by simp [World.frozen?, hblk]⟩
end Go.Proofs.Ytmbjaemflmbljaa
