/- Chapter 2: Words, New. -/
import Derived.Test.YtgfidbjhihignaaPwMem6
import Derived.Deep.MidRow
import Derived.Lib.SliceRun
import Derived.StillTailTactics
import Derived.Deep.QuietTactic
import Derived.BigQuiet
import Derived.Maps.AppendAt
import Derived.Deep.RegionHeld3
namespace Go.Proofs.Ytgfidbjhihignaa
set_option linter.unusedVariables false
set_option linter.unusedSimpArgs false
open Go.ChangeShapes Go.WideShapes Go.ChangeAt Go.RowKit

open Go.Shelf
theorem rwords_bad (w : World) (b g n c : Nat) (f : Int) (m : Nat → Int) (h : RefAt w b g n c m) (hf : ¬ (0 ≤ f ∧ f < n)) :
    Calls Try.prog 35 #[.pointer (some ⟨b, 0, none⟩), .int .i64 f] w fun e w' => e = .returned (.tuple #[.slice none 0 0, .int .i64 3]) ∧ w = w' := by
  have H := Lib.hid h
  clear h
  by_cases h0 : 0 ≤ f
  · have h1 : ¬ f < n := fun e => hf ⟨h0, e⟩
    clear hf
    go_enter Try.func35, Try.ntmps35
    go_wp2_with (first
      | (go_at_call 33; refine (rframes_any _ b g n c m H.out).mono ?_; rintro e w1 ⟨rfl, rfl⟩))
    refine bodyPost_ret (v := .tuple #[.slice none 0 0, .int .i64 3]) (by simp [results, Try.results35, go_sem]) rfl ⟨rfl, rfl⟩
  · clear hf
    go_enter Try.func35, Try.ntmps35
    go_wp2_with (first
      | (go_at_call 33; refine (rframes_any _ b g n c m H.out).mono ?_; rintro e w1 ⟨rfl, rfl⟩))
    refine bodyPost_ret (v := .tuple #[.slice none 0 0, .int .i64 3]) (by simp [results, Try.results35, go_sem]) rfl ⟨rfl, rfl⟩
set_option maxRecDepth 100000 in
theorem rwords_ok (w : World) (b g n c f : Nat) (m : Nat → Int) (h : RefAt w b g n c m) (hf : f < n) :
    Calls Try.prog 35 #[.pointer (some ⟨b, 0, none⟩), .int .i64 f] w fun e w' => ∃ v, e = .returned (.tuple #[v, .int .i64 0]) ∧ w'.ownsRow w.heap.size 30 1 v 8 (wordsL m (8 * f) 8) ∧ Below w.heap.size w w' := by
  obtain ⟨i0, hi, hz0, hz1, hz2⟩ := info_parts infoW
  have HI := Lib.hid hi
  have H := Lib.hid h
  have hd := h.hd
  have hn := h.n64
  have hcap := h.cap
  have hcm := h.capm
  unfold maxLen at hcm
  have i1 : (f : Int) < n := by omega
  have i4 : (n : Int) ≤ 64 := by omega
  have q1 : (8 * (f : Int)).toNat = 8 * f := by omega
  have q2 : (8 * (f : Int) + 8).toNat = 8 * f + 8 := by omega
  have q3 : 8 * (f : Int) + 8 ≤ c := by omega
  have hcs : ∀ j u, (wordsL m (8 * f) 8)[j]? = some u → w.cell? ⟨g, 8 * f + j, none⟩ = some u := fun j u hj => by
    obtain ⟨a, rfl⟩ := wordsL_get _ _ _ _ _ hj
    exact h.cells _ (by omega)
  have HC := Lib.hid hcs
  clear h hcs hi
  go_enter Try.func35, Try.ntmps35
  go_wp2_with (first
    | (go_at_call 33; refine (rframes_any _ b g n c m H.out).mono ?_; rintro e w1 ⟨rfl, rfl⟩)
    | (at_builtin; refine wpList_append_own _ rfl _ _ 63 rfl w.heap.size 30 i0 (.int .u64 0) 1 8 Try.underlying63 HI.out hz0 hz1 hz2 rfl (by decide) _ 0 [] rfl (World.ownsRow_nil _ _ _ _) ⟨g, 8 * f, none⟩ 8 (c - 8 * f) (wordsL m (8 * f) 8) rfl (by rw [wordsL_len]) (add_from HC.out) (wordsL_one _ _ _) (by unfold maxLen; omega) (by omega) (by simp) ?_; intro v' w1 hown' hgrow _))
  refine bodyPost_ret (v := .tuple #[v', .int .i64 0]) (by simp [results, Try.results35, go_sem]) rfl ⟨v', rfl, by simpa using hown', (Below.refl _ _).grown hgrow (Nat.le_refl _) (fun j ej => by cases (show (none : Option Nat) = some j from ej))⟩
/-- What a call leaves of one block, and no other. -/
theorem grown_cell (w : World) (g i : Nat) (u : Value) : w.grownBy (w.setCell ⟨g, i, none⟩ u) (some g) :=
  ⟨rfl, rfl, rfl, by simp, fun k _ hk => Go.heap_setCell_other _ _ _ _ (fun e => hk (by rw [e]))⟩
theorem grown_trans {a b c : World} {r : Option Nat} (h : a.grownBy b r) (k : b.grownBy c r) : a.grownBy c r :=
  ⟨k.os.trans h.os, k.tape.trans h.tape, k.output.trans h.output, Nat.le_trans h.size k.size, fun j h1 h2 => (k.block j (Nat.lt_of_lt_of_le h1 h.size) h2).trans (h.block j h1 h2)⟩
theorem BlkOnly.of_grown {g : Nat} {w w' : World} (h : w.grownBy w' (some g)) : BlkOnly g w w' := ⟨h.os, h.tape, h.output, h.size, fun k hk hn => h.block k hk (fun e => hn (by cases e; rfl))⟩
theorem same_nil (w : World) : Calls Try.prog 36 #[.slice none 0 0, .slice none 0 0] w fun e w' => e = .returned (.bool true) ∧ w = w' := by
  go_enter Try.func36, Try.ntmps36
  go_wp2
  refine wp_loop_rounds 1 ?_
  rw [rounds_succ]
  go_wp2
  go_ret
  exact ⟨rfl, rfl⟩
theorem rnew_bad (w : World) (n : Int) (h : n < 1 ∨ 64 < n) :
    Calls Try.prog 25 #[.int .i64 n] w fun e w' => e = .returned (.tuple #[.pointer none, .int .i64 3]) ∧ w = w' := by
  have hd : (decide (n < 1) || decide (64 < n)) = true := by simp; omega
  go_enter Try.func25, Try.ntmps25
  go_wp2
  all_goals go_ret2
  all_goals exact ⟨rfl, rfl⟩
theorem zeros_one (n : Nat) : (madeCells (Value.int .u64 0).cells (8 * n * 1)).toList = wordsL (fun _ => 0) 0 (8 * n) := by
  apply List.ext_getElem?
  intro j
  by_cases hj : j < 8 * n * 1
  · rw [wordsL_at _ _ _ _ (by omega), Array.getElem?_toList]
    unfold madeCells
    rw [Array.getElem?_map, Array.getElem?_range, if_pos hj]
    simp only [Option.map_some, Option.some.injEq]
    have h : ∀ k, k < 1 → (Value.int .u64 0).cells[k]! = .int .u64 0 := by
      intro k hk
      obtain rfl : k = 0 := by omega
      rfl
    exact h _ (Nat.mod_lt _ (by decide))
  · rw [List.getElem?_eq_none (by simp [size_madeCells]; omega), List.getElem?_eq_none (by simp [wordsL_len]; omega)]
theorem ref_new {w w1 : World} {n : Nat} {v : Value} {m : Nat → Int} {B : Nat} (hr : w1.ownsRow B 30 1 v (8 * n) (wordsL m 0 (8 * n))) (n1 : 1 ≤ n) (n64 : n ≤ 64) (hw : ∀ k, WordI (m k)) :
    ∃ g c, v = .slice (some ⟨g, 0, none⟩) (8 * n) c ∧ B ≤ g ∧ g < w1.heap.size ∧ RefAt (w1.alloc (.cells #[.slice (some ⟨g, 0, none⟩) (8 * n) c] 82)) w1.heap.size g n c m := by
  obtain ⟨g, c, rfl, hc, hm, hB, hg, hf, hcs⟩ := own_form hr (by omega)
  have hb : Below w1.heap.size w1 (w1.alloc (.cells #[.slice (some ⟨g, 0, none⟩) (8 * n) c] 82)) := bal (Below.refl _ _) _
  refine ⟨g, c, rfl, hB, hg, by simp, fun k hk => ?_, fun k => (hb.frozen (p := ⟨g, k, none⟩) hg).trans (hf k), hw, n1, n64, hc, hm, by omega, by simp, by simp; omega⟩
  refine (hb.cell (p := ⟨g, k, none⟩) hg).trans (hcs k _ ?_)
  rw [wordsL_at _ _ _ _ hk, Nat.zero_add]
set_option maxRecDepth 100000 in
theorem rnew_ok (w : World) (n : Nat) (h1 : 1 ≤ n) (h64 : n ≤ 64) :
    Calls Try.prog 25 #[.int .i64 n] w fun e w' => ∃ b g c, e = .returned (.tuple #[.pointer (some ⟨b, 0, none⟩), .int .i64 0]) ∧ RefAt w' b g n c (fun _ => 0) ∧ w.heap.size ≤ b ∧ w.heap.size ≤ g ∧ Below w.heap.size w w' := by
  obtain ⟨i0, hi, hz0, hz1, hz2⟩ := info_parts infoW
  obtain ⟨w1, hrun, hown, hgr⟩ := run_make_full (P := Try.prog) w w.heap.size 63 30 i0 _ 1 Try.underlying63 hi hz0 hz1 .i64 .i64 (8 * n) (by rw [hz2]; omega) (by unfold maxLen; omega) (Nat.le_refl _)
  rw [zeros_one] at hown
  obtain ⟨g, c, hv, hg1, hg2, hma⟩ := ref_new (w := w) hown h1 h64 (fun _ => ⟨by decide, by decide⟩)
  simp only [Value.slice.injEq, Option.some.injEq, Addr.mk.injEq, and_true, true_and] at hv
  obtain ⟨rfl, rfl⟩ := hv
  have hrun2 : (Instr.makeSlice 63 (.int .i64 (8 * (n : Int))) (.int .i64 (8 * (n : Int)))).run Try.prog w = .ok (.slice (some ⟨w.heap.size, 0, none⟩) (8 * n) (8 * n)) w1 := by
    have e : ((8 * n : Nat) : Int) = 8 * (n : Int) := by omega
    rw [← e]; exact hrun
  have i64 : (n : Int) ≤ 64 := by omega
  have i1 : ¬ (n : Int) < 1 := by omega
  have HMA := Lib.hid hma
  have HGR := Lib.hid hgr
  clear hma hgr hown hi hz0 hz1 hz2 hrun
  go_enter Try.func25, Try.ntmps25
  go_wp2
  go_ret2
  have hgs := HGR.out.size
  have hbb : Below w.heap.size w (w1.alloc (.cells #[.slice (some ⟨w.heap.size, 0, none⟩) (8 * n) (8 * n)] 82)) := ((Below.refl _ _).grown HGR.out (Nat.le_refl _) (fun j e => by cases e)).alloc HGR.out.size _
  exact ⟨_, rfl, _, ⟨_, HMA.out⟩, by omega, Nat.le_refl _, hbb⟩
end Go.Proofs.Ytgfidbjhihignaa
