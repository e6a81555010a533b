/- The records of threads: the first one is added. -/
import Derived.Test.YtiagkoiikmmgdaaThr
import Derived.Laws.AppendOwn
import Derived.OwnWalk
import Derived.StillTailTactics
import Derived.Deep.RegionWith
import Derived.Outline
namespace Go.Proofs.Ytiagkoiikmmgdaa
set_option linter.unusedVariables false
set_option linter.unusedSimpArgs false
open Go.ChangeShapes Go.WideShapes Go.ChangeAt Go.RowKit Go.Shelf

abbrev zrow : Value := .agg #[i0', i0', i0', i0', u0, u0, u0, u0, u0, b0, i0', i0', u0, u0, u0, u0, u0, i0', i0', b0, b0, b0, b0, u0, u0]
theorem infoR : (Try.prog.info? 73).map (fun i => (i.zero, i.size, i.bytes)) = some (some zrow, 25, 184) := by kernel_rfl
theorem one25 : ∀ u ∈ row25, u.oneCell' = true := by
  intro u hu
  have h : row25.all (·.oneCell') = true := by decide +kernel
  exact List.all_eq_true.1 h u hu
set_option maxHeartbeats 2000000 in
theorem insert_first (w : World) (n : Nat) (hc : ∀ j v, row25[j]? = some v → w.cell? ⟨n, j, none⟩ = some v) :
    Calls Try.prog 32 #[.slice none 0 0, .int .i64 0, .slice (some ⟨n, 0, none⟩) 1 1] w fun e w' =>
      ∃ g c : Nat, e = .returned (.slice (some ⟨g, 0, none⟩) 1 c) ∧ w.heap.size ≤ g ∧ g < w'.heap.size ∧ (∀ j v, row25[j]? = some v → w'.cell? ⟨g, j, none⟩ = some v) ∧ Below w.heap.size w w' := by
  obtain ⟨i0, hi, hz0, hz1, hz2⟩ := info_parts infoR
  have HC := Lib.hid hc
  have HI := Lib.hid hi
  clear hc hi
  go_enter Try.func32, Try.ntmps32
  go_wp2_with (at_builtin; refine wpList_append_own _ rfl _ _ 54 rfl w.heap.size 73 i0 zrow 25 184 Try.underlying54 HI.out hz0 hz1 hz2 rfl (by decide) (.slice none 0 0) 0 [] rfl (World.ownsRow_nil w w.heap.size 73 25) ⟨n, 0, none⟩ 1 1 row25 rfl rfl (add_cells HC.out) one25 (by unfold maxLen; omega) (by omega) (Nat.le_refl _) ?_; intro v' w1 hown' hgrow hnil)
  go_ret
  obtain ⟨hl, h | ⟨g, cap, cur, rfl, hg, hblk, h1, h2, h3, h4⟩⟩ := hown'
  · exact absurd h.2 (by omega)
  · refine ⟨g, ⟨cap, rfl⟩, hg, ?_, ?_, (Below.refl _ _).grown hgrow (Nat.le_refl _) (fun k hk => by cases hk)⟩
    · rcases Nat.lt_or_ge g w1.heap.size with h | h
      · exact h
      · rw [Array.getElem?_eq_none h] at hblk
        cases hblk
    · intro j v hj
      have hj25 : j < 25 := by
        rcases Nat.lt_or_ge j 25 with h | h
        · exact h
        · rw [List.getElem?_eq_none (by simpa [row25] using h)] at hj
          cases hj
      have hq : (cur.toList.take 25)[j]? = some v := by
        have : cur.toList.take ((0 + 1) * 25) = [] ++ row25 := h4
        simp only [Nat.zero_add, Nat.one_mul, List.nil_append] at this
        rw [this]
        exact hj
      rw [List.getElem?_take_of_lt hj25] at hq
      rw [cell_of_row _ g j cur _ _ hblk]
      simpa using hq
theorem new25 (W : World) (t : TypeId) (n : Nat) (hn : n = W.heap.size) : ∀ j v, row25[j]? = some v → (W.alloc (.cells #[.int .i64 4, .int .i64 4, i0', i0', u0, u0, u0, u0, u0, b0, i0', i0', u0, u0, u0, u0, u0, .int .i64 4096, .int .i64 4096, b0, b0, b0, b0, u0, u0] t)).cell? ⟨n, j, none⟩ = some v := by
  intro j v hj
  subst hn
  exact (cell_of_row _ _ j row25.toArray t (0, 0) (World.alloc_heap_new W _)).trans (by simpa using hj)
end Go.Proofs.Ytiagkoiikmmgdaa
