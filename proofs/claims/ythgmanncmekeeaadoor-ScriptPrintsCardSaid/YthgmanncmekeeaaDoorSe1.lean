/- chapter 35: an event's parts, by the own answer: a call's, and any event's. -/
import Derived.Test.YthgmanncmekeeaaDoorSe1a
import Derived.Maps.AppendAt
namespace Go.Proofs.YthgmanncmekeeaaDoor
set_option linter.unusedVariables false
set_option linter.unusedSimpArgs false
open Go.ChangeShapes Go.WideShapes Go.ChangeAt Go.RowKit Go.Shelf
attribute [-go_sem] binOp_string_add binOp_string_eql binOp_string_neq run_index_string
attribute [local go_sem] Sc.bs_size
attribute [-go_sem] Builtin.append_
namespace Sc
theorem infoU : (Tryd.prog.info? 31).map (fun i => (i.zero, i.size, i.bytes)) = some (some (.int .u64 0), 1, 8) := by kernel_rfl
/-- One word, and the six behind it: put together. -/
theorem seven {W : World} (b q : Nat) (c : Ev) (he : W.heap[b]? = some (.cells (evA c) 36 (0, 0))) (hq : W.heap[q]? = some (.cells #[.int .u64 (c 3)] 31 (0, 0))) :
    ∃ g cap W', (Builtin.append_ #[70, 70] 70 #[.slice (some ⟨q, 0, none⟩) 1 1, .slice (some ⟨b, 4, none⟩) 6 6]).run Tryd.prog W = .ok (.slice (some ⟨g, 0, none⟩) 7 cap) W' ∧ IntR .u64 W' (.slice (some ⟨g, 0, none⟩) 7 cap) [c 3, c 4, c 5, c 6, c 7, c 8, c 9] ∧ W.grownBy W' (some q) := by
  obtain ⟨i0, hi0, hz0, hz1, hz2⟩ := info_parts infoU
  have hql := (Array.getElem?_eq_some_iff.1 hq).1
  have hown : W.ownsRow q 31 1 (.slice (some ⟨q, 0, none⟩) 1 1) 1 [.int .u64 (c 3)] := ⟨rfl, .inr ⟨q, 1, #[.int .u64 (c 3)], rfl, Nat.le_refl _, hq, Nat.le_refl _, by unfold maxLen; decide, rfl, rfl⟩⟩
  obtain ⟨v', w', q1, q2, q3, -, -⟩ := run_append_own_at (P := Tryd.prog) (w := W) q 70 70 31 i0 (.int .u64 0) 1 8 Tryd.underlying70 hi0 hz0 hz1 hz2 rfl (by decide) _ 1 _ hown ⟨b, 4, none⟩ 6 6 [.int .u64 (c 4), .int .u64 (c 5), .int .u64 (c 6), .int .u64 (c 7), .int .u64 (c 8), .int .u64 (c 9)] rfl (fun j u hj => by
    rw [addr_mid, row_cell he]
    have hj6 : j < 6 := (List.getElem?_eq_some_iff.1 hj).1
    obtain rfl | rfl | rfl | rfl | rfl | rfl : j = 0 ∨ j = 1 ∨ j = 2 ∨ j = 3 ∨ j = 4 ∨ j = 5 := by omega
    all_goals exact hj) (by simp [Value.oneCell']) (by unfold maxLen; omega) (by omega) (by omega)
  obtain ⟨hr, e | ⟨g, cap, cur, rfl, hg, hblk, h3, h4, h5, h6⟩⟩ := id q2
  · omega
  · exact ⟨g, cap, w', q1, IntR.own (T := 31) (B := q) (L := [c 3, c 4, c 5, c 6, c 7, c 8, c 9]) rfl q2, q3⟩
set_option maxRecDepth 100000 in
set_option maxHeartbeats 1000000 in
theorem parts_2 (c : Ev) (w : World) (hk : c 0 = 2) : Calls Tryd.prog 26 #[.agg (evA c)] w (PartsRes c w) := by
  obtain ⟨w1, hw1⟩ : ∃ y, y = w.alloc (.cells (evA c) 36) := ⟨_, rfl⟩
  have hb1 : Below w.heap.size w w1 := hw1 ▸ bal (Below.refl _ _) _
  have hlt : w.heap.size < w1.heap.size := by rw [hw1]; simp
  have he : w1.heap[w.heap.size]? = some (.cells (evA c) 36 (0, 0)) := by rw [hw1]; exact World.alloc_heap_new _ _
  have HW1 := Lib.hid hw1
  have c0 : w1.cell? ⟨w.heap.size, 0, none⟩ = some (.int .i64 2) := by rw [row_cell he, ← hk]; rfl
  have c1 : w1.cell? ⟨w.heap.size, 1, none⟩ = some (.int .i64 (c 1)) := by rw [row_cell he]; rfl
  have c3 : w1.cell? ⟨w.heap.size, 3, none⟩ = some (.int .u64 (c 3)) := by rw [row_cell he]; rfl
  have HF : Hid (∀ e w' u v, e = .returned (.tuple #[.string { data := #[99, 97, 108, 108] }, u, v]) → IntR .i64 w' u [c 1] ∧ IntR .u64 w' v [c 3, c 4, c 5, c 6, c 7, c 8, c 9] ∧ Below w1.heap.size w1 w' → PartsRes c w e w') := Lib.hid (fun e w' u v h1 h2 => ⟨u, v, by rw [h1, hk]; rfl, fun _ => by rw [hk]; exact ⟨h2.1, h2.2.1⟩, hb1.trans (h2.2.2.mono hb1.size)⟩)
  generalize PartsRes c w = R at HF ⊢
  have HE := Lib.hid he
  -- the two makes first, the ints ahead
  have ra := row2 w1 [.int .i64 (c 1)] 3 [.int .u64 (c 3)] 31
  have rb := row2 w1 [.int .u64 (c 3)] 31 [.int .i64 (c 1)] 3
  have rc := row1 w1 [.int .u64 (c 3)] 31
  obtain ⟨ga, ka, Wa, ra1, ra2, ra3⟩ := seven w.heap.size (w1.heap.size + 1) c ((ra.2.2.block _ hlt).trans he) ra.2.1
  obtain ⟨gb, kb, Wb, rb1, rb2, rb3⟩ := seven w.heap.size w1.heap.size c ((rb.2.2.block _ hlt).trans he) rb.1
  obtain ⟨gc, kc, Wc, rc1, rc2, rc3⟩ := seven w.heap.size w1.heap.size c ((rc.2.block _ hlt).trans he) rc.1
  have RA : Hid (IntR .i64 Wa (.slice (some ⟨w1.heap.size, 0, none⟩) 1 1) [c 1] ∧ IntR .u64 Wa (.slice (some ⟨ga, 0, none⟩) 7 ka) [c 3, c 4, c 5, c 6, c 7, c 8, c 9] ∧ Below w1.heap.size w1 Wa) := Lib.hid ⟨IntR.block (T := 3) [c 1] 1 rfl ((ra3.block _ (by simp; omega) (by simp)).trans ra.1), ra2, ra.2.2.trans ((Below.refl _ _).grown ra3 (by simp; omega) (fun k e => by cases e; omega))⟩
  have RB : Hid (IntR .i64 Wb (.slice (some ⟨w1.heap.size + 1, 0, none⟩) 1 1) [c 1] ∧ IntR .u64 Wb (.slice (some ⟨gb, 0, none⟩) 7 kb) [c 3, c 4, c 5, c 6, c 7, c 8, c 9] ∧ Below w1.heap.size w1 Wb) := Lib.hid ⟨IntR.block (T := 3) [c 1] 1 rfl ((rb3.block _ (by simp) (by simp)).trans rb.2.1), rb2, rb.2.2.trans ((Below.refl _ _).grown rb3 (by simp; omega) (fun k e => by cases e; omega))⟩
  have hbc : Below w1.heap.size w1 Wc := rc.2.trans ((Below.refl _ _).grown rc3 (by simp) (fun k e => by cases e; omega))
  have RC : Hid (IntR .i64 (Wc.alloc (.cells #[.int .i64 (c 1)] 3)) (.slice (some ⟨Wc.heap.size, 0, none⟩) 1 1) [c 1] ∧ IntR .u64 (Wc.alloc (.cells #[.int .i64 (c 1)] 3)) (.slice (some ⟨gc, 0, none⟩) 7 kc) [c 3, c 4, c 5, c 6, c 7, c 8, c 9] ∧ Below w1.heap.size w1 (Wc.alloc (.cells #[.int .i64 (c 1)] 3))) := Lib.hid ⟨IntR.block (T := 3) [c 1] 1 rfl (World.alloc_heap_new _ _), rc2.call (bal (Below.refl _ _) _), bal hbc _⟩
  have hca : Wc.cell? ⟨w.heap.size, 1, none⟩ = some (.int .i64 (c 1)) := by rw [row_cell ((hbc.block _ hlt).trans he)]; rfl
  clear he hb1 hw1 hk ra rb rc ra2 ra3 rb2 rb3 rc2 rc3 hbc HE
  go_enter Tryd.func26, Tryd.ntmps26
  go_upto_region 1 with fail
  rw [← HW1.out]
  go_upto_region 5 with fail
  go_region
  all_goals go_wp2
  · exact bodyPost_ret (v := .tuple #[.string { data := #[99, 97, 108, 108] }, .slice (some ⟨w1.heap.size, 0, none⟩) 1 1, .slice (some ⟨ga, 0, none⟩) 7 ka]) (by simp [results, Tryd.results26, go_sem]) rfl (HF.out _ _ _ _ rfl RA.out)
  · exact bodyPost_ret (v := .tuple #[.string { data := #[99, 97, 108, 108] }, .slice (some ⟨w1.heap.size + 1, 0, none⟩) 1 1, .slice (some ⟨gb, 0, none⟩) 7 kb]) (by simp [results, Tryd.results26, go_sem]) rfl (HF.out _ _ _ _ rfl RB.out)
  · exact bodyPost_ret (v := .tuple #[.string { data := #[99, 97, 108, 108] }, .slice (some ⟨Wc.heap.size, 0, none⟩) 1 1, .slice (some ⟨gc, 0, none⟩) 7 kc]) (by simp [results, Tryd.results26, go_sem]) rfl (HF.out _ _ _ _ rfl RC.out)
set_option maxRecDepth 100000 in
set_option maxHeartbeats 1000000 in
theorem parts_none (c : Ev) (w : World) (h : nm (c 0) = []) : Calls Tryd.prog 26 #[.agg (evA c)] w (PartsRes c w) := by
  have hk : c 0 ≠ 1 ∧ c 0 ≠ 2 ∧ c 0 ≠ 3 ∧ c 0 ≠ 4 ∧ c 0 ≠ 5 ∧ c 0 ≠ 6 := by
    refine ⟨?_, ?_, ?_, ?_, ?_, ?_⟩
    all_goals (intro e; rw [e] at h; exact absurd h (by decide))
  obtain ⟨w1, hw1⟩ : ∃ y, y = w.alloc (.cells (evA c) 36) := ⟨_, rfl⟩
  have hb1 : Below w.heap.size w w1 := hw1 ▸ bal (Below.refl _ _) _
  have he : w1.heap[w.heap.size]? = some (.cells (evA c) 36 (0, 0)) := by rw [hw1]; exact World.alloc_heap_new _ _
  have HW1 := Lib.hid hw1
  obtain ⟨k, hkk⟩ : ∃ k, k = c 0 := ⟨_, rfl⟩
  have c0 : w1.cell? ⟨w.heap.size, 0, none⟩ = some (.int .i64 k) := by rw [row_cell he, hkk]; rfl
  rw [← hkk] at hk
  obtain ⟨h1, h2, h3, h4, h5, h6⟩ := hk
  have HF : Hid (∀ e w' u v, e = .returned (.tuple #[.string { data := #[] }, u, v]) → Below w1.heap.size w1 w' → PartsRes c w e w') := Lib.hid (fun e w' u v h1 h2 => ⟨u, v, by rw [h1, h]; rfl, fun hn => absurd h hn, hb1.trans (h2.mono hb1.size)⟩)
  generalize PartsRes c w = R at HF ⊢
  clear he hb1 hw1 hkk h
  go_enter Tryd.func26, Tryd.ntmps26
  go_upto_region 1 with fail
  rw [← HW1.out]
  go_wp2
  exact bodyPost_ret (v := .tuple #[.string { data := #[] }, .slice none 0 0, .slice none 0 0]) (by simp [results, Tryd.results26, go_sem]) rfl (HF.out _ _ _ _ rfl (Below.refl _ _))
theorem refparts_any (c : Ev) (w : World) : Calls Tryd.prog 26 #[.agg (evA c)] w (PartsRes c w) := by
  by_cases h : nm (c 0) = []
  · exact parts_none c w h
  · rcases kind_cases _ h with q | q | q | q | q | q
    · exact parts_1 c w q
    · exact parts_2 c w q
    · exact parts_3 c w q
    · exact parts_4 c w q
    · exact parts_5 c w q
    · exact parts_6 c w q
end Sc
end Go.Proofs.YthgmanncmekeeaaDoor
