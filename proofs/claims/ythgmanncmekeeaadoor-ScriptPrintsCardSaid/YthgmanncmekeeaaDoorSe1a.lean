/- chapter 35: an event's parts, by the own answer, kind by kind. -/
import Derived.Test.YthgmanncmekeeaaDoorSe0
namespace Go.Proofs.YthgmanncmekeeaaDoor
set_option linter.unusedVariables false
set_option linter.unusedSimpArgs false
open Go.ChangeShapes Go.WideShapes Go.ChangeAt Go.RowKit Go.Shelf
attribute [-go_sem] binOp_string_add binOp_string_eql binOp_string_neq run_index_string
attribute [local go_sem] Sc.bs_size
namespace Sc
theorem row1 (w : World) (A : List Value) (TA : TypeId) : ((w.alloc (.cells A.toArray TA)).drew).heap[w.heap.size]? = some (.cells A.toArray TA (0, 0)) ∧ Below w.heap.size w (w.alloc (.cells A.toArray TA)).drew :=
  ⟨World.alloc_heap_new w _, (bal (Below.refl _ _) _).drew⟩
theorem row2 (w : World) (A : List Value) (TA : TypeId) (B : List Value) (TB : TypeId) : (((w.alloc (.cells A.toArray TA)).alloc (.cells B.toArray TB)).drew).heap[w.heap.size]? = some (.cells A.toArray TA (0, 0)) ∧ (((w.alloc (.cells A.toArray TA)).alloc (.cells B.toArray TB)).drew).heap[w.heap.size + 1]? = some (.cells B.toArray TB (0, 0)) ∧ Below w.heap.size w ((w.alloc (.cells A.toArray TA)).alloc (.cells B.toArray TB)).drew := by
  refine ⟨(Below.heap_alloc _ _ _ (by simp)).trans (World.alloc_heap_new w _), ?_, (bal (bal (Below.refl _ _) _) _).drew⟩
  have := World.alloc_heap_new (w.alloc (.cells A.toArray TA)) (.cells B.toArray TB)
  rw [World.size_alloc] at this
  exact this
set_option maxRecDepth 100000 in
set_option maxHeartbeats 1000000 in
theorem parts_1 (c : Ev) (w : World) (hk : c 0 = 1) : Calls Tryd.prog 26 #[.agg (evA c)] w (PartsRes c w) := by
  obtain ⟨w1, hw1⟩ : ∃ y, y = w.alloc (.cells (evA c) 36) := ⟨_, rfl⟩
  have hb1 : Below w.heap.size w w1 := hw1 ▸ bal (Below.refl _ _) _
  have hlt : w.heap.size < w1.heap.size := by rw [hw1]; simp
  have he : w1.heap[w.heap.size]? = some (.cells (evA c) 36 (0, 0)) := by rw [hw1]; exact World.alloc_heap_new _ _
  have HW1 := Lib.hid hw1
  have c0 : w1.cell? ⟨w.heap.size, 0, none⟩ = some (.int .i64 1) := by rw [row_cell he, ← hk]; rfl
  have c1 : w1.cell? ⟨w.heap.size, 1, none⟩ = some (.int .i64 (c 1)) := by rw [row_cell he]; rfl
  have c2 : w1.cell? ⟨w.heap.size, 2, none⟩ = some (.int .i64 (c 2)) := by rw [row_cell he]; rfl
  have HF : Hid (∀ e w' u v, e = .returned (.tuple #[.string { data := #[112, 105, 99, 107] }, u, v]) → IntR .i64 w' u [c 1, c 2] ∧ IntR .u64 w' v [] ∧ Below w1.heap.size w1 w' → PartsRes c w e w') := Lib.hid (fun e w' u v h1 h2 => ⟨u, v, by rw [h1, hk]; rfl, fun _ => by rw [hk]; exact ⟨h2.1, h2.2.1⟩, hb1.trans (h2.2.2.mono hb1.size)⟩)
  generalize PartsRes c w = R at HF ⊢
  clear he hb1 hw1 hk
  go_enter Tryd.func26, Tryd.ntmps26
  go_upto_region 1 with fail
  rw [← HW1.out]
  go_upto_region 3 with fail
  go_region
  go_wp2
  exact bodyPost_ret (v := .tuple #[.string { data := #[112, 105, 99, 107] }, .slice (some ⟨w1.heap.size, 0, none⟩) 2 2, .slice none 0 0]) (by simp [results, Tryd.results26, go_sem]) rfl (HF.out _ _ _ _ rfl ⟨IntR.block [c 1, c 2] 2 rfl (row1 w1 [.int .i64 (c 1), .int .i64 (c 2)] 3).1, IntR.nil _ _, (row1 w1 [.int .i64 (c 1), .int .i64 (c 2)] 3).2⟩)
set_option maxRecDepth 100000 in
set_option maxHeartbeats 1000000 in
theorem parts_3 (c : Ev) (w : World) (hk : c 0 = 3) : Calls Tryd.prog 26 #[.agg (evA c)] w (PartsRes c w) := by
  obtain ⟨w1, hw1⟩ : ∃ y, y = w.alloc (.cells (evA c) 36) := ⟨_, rfl⟩
  have hb1 : Below w.heap.size w w1 := hw1 ▸ bal (Below.refl _ _) _
  have hlt : w.heap.size < w1.heap.size := by rw [hw1]; simp
  have he : w1.heap[w.heap.size]? = some (.cells (evA c) 36 (0, 0)) := by rw [hw1]; exact World.alloc_heap_new _ _
  have HW1 := Lib.hid hw1
  have c0 : w1.cell? ⟨w.heap.size, 0, none⟩ = some (.int .i64 3) := by rw [row_cell he, ← hk]; rfl
  have c1 : w1.cell? ⟨w.heap.size, 1, none⟩ = some (.int .i64 (c 1)) := by rw [row_cell he]; rfl
  have c10 : w1.cell? ⟨w.heap.size, 10, none⟩ = some (.int .u64 (c 10)) := by rw [row_cell he]; rfl
  have HF : Hid (∀ e w' u v, e = .returned (.tuple #[.string { data := #[108, 111, 97, 100] }, u, v]) → IntR .i64 w' u [c 1] ∧ IntR .u64 w' v [c 10] ∧ Below w1.heap.size w1 w' → PartsRes c w e w') := Lib.hid (fun e w' u v h1 h2 => ⟨u, v, by rw [h1, hk]; rfl, fun _ => by rw [hk]; exact ⟨h2.1, h2.2.1⟩, hb1.trans (h2.2.2.mono hb1.size)⟩)
  generalize PartsRes c w = R at HF ⊢
  clear he hb1 hw1 hk
  go_enter Tryd.func26, Tryd.ntmps26
  go_upto_region 1 with fail
  rw [← HW1.out]
  go_upto_region 7 with fail
  go_region
  all_goals go_wp2
  all_goals
    first
      | exact bodyPost_ret (v := .tuple #[.string { data := #[108, 111, 97, 100] }, .slice (some ⟨w1.heap.size, 0, none⟩) 1 1, .slice (some ⟨w1.heap.size + 1, 0, none⟩) 1 1]) (by simp [results, Tryd.results26, go_sem]) rfl (HF.out _ _ _ _ rfl ⟨IntR.block [c 1] 1 rfl (row2 w1 [.int .i64 (c 1)] 3 [.int .u64 (c 10)] 31).1, IntR.block [c 10] 1 rfl (row2 w1 [.int .i64 (c 1)] 3 [.int .u64 (c 10)] 31).2.1, (row2 w1 [.int .i64 (c 1)] 3 [.int .u64 (c 10)] 31).2.2⟩)
      | exact bodyPost_ret (v := .tuple #[.string { data := #[108, 111, 97, 100] }, .slice (some ⟨w1.heap.size + 1, 0, none⟩) 1 1, .slice (some ⟨w1.heap.size, 0, none⟩) 1 1]) (by simp [results, Tryd.results26, go_sem]) rfl (HF.out _ _ _ _ rfl ⟨IntR.block [c 1] 1 rfl (row2 w1 [.int .u64 (c 10)] 31 [.int .i64 (c 1)] 3).2.1, IntR.block [c 10] 1 rfl (row2 w1 [.int .u64 (c 10)] 31 [.int .i64 (c 1)] 3).1, (row2 w1 [.int .u64 (c 10)] 31 [.int .i64 (c 1)] 3).2.2⟩)
set_option maxRecDepth 100000 in
set_option maxHeartbeats 1000000 in
theorem parts_4 (c : Ev) (w : World) (hk : c 0 = 4) : Calls Tryd.prog 26 #[.agg (evA c)] w (PartsRes c w) := by
  obtain ⟨w1, hw1⟩ : ∃ y, y = w.alloc (.cells (evA c) 36) := ⟨_, rfl⟩
  have hb1 : Below w.heap.size w w1 := hw1 ▸ bal (Below.refl _ _) _
  have hlt : w.heap.size < w1.heap.size := by rw [hw1]; simp
  have he : w1.heap[w.heap.size]? = some (.cells (evA c) 36 (0, 0)) := by rw [hw1]; exact World.alloc_heap_new _ _
  have HW1 := Lib.hid hw1
  have c0 : w1.cell? ⟨w.heap.size, 0, none⟩ = some (.int .i64 4) := by rw [row_cell he, ← hk]; rfl
  have c1 : w1.cell? ⟨w.heap.size, 1, none⟩ = some (.int .i64 (c 1)) := by rw [row_cell he]; rfl
  have c10 : w1.cell? ⟨w.heap.size, 10, none⟩ = some (.int .u64 (c 10)) := by rw [row_cell he]; rfl
  have c11 : w1.cell? ⟨w.heap.size, 11, none⟩ = some (.int .u64 (c 11)) := by rw [row_cell he]; rfl
  have HF : Hid (∀ e w' u v, e = .returned (.tuple #[.string { data := #[115, 116, 111, 114, 101] }, u, v]) → IntR .i64 w' u [c 1] ∧ IntR .u64 w' v [c 10, c 11] ∧ Below w1.heap.size w1 w' → PartsRes c w e w') := Lib.hid (fun e w' u v h1 h2 => ⟨u, v, by rw [h1, hk]; rfl, fun _ => by rw [hk]; exact ⟨h2.1, h2.2.1⟩, hb1.trans (h2.2.2.mono hb1.size)⟩)
  generalize PartsRes c w = R at HF ⊢
  clear he hb1 hw1 hk
  go_enter Tryd.func26, Tryd.ntmps26
  go_upto_region 1 with fail
  rw [← HW1.out]
  go_upto_region 9 with fail
  go_region
  all_goals go_wp2
  all_goals
    first
      | exact bodyPost_ret (v := .tuple #[.string { data := #[115, 116, 111, 114, 101] }, .slice (some ⟨w1.heap.size, 0, none⟩) 1 1, .slice (some ⟨w1.heap.size + 1, 0, none⟩) 2 2]) (by simp [results, Tryd.results26, go_sem]) rfl (HF.out _ _ _ _ rfl ⟨IntR.block [c 1] 1 rfl (row2 w1 [.int .i64 (c 1)] 3 [.int .u64 (c 10), .int .u64 (c 11)] 31).1, IntR.block [c 10, c 11] 2 rfl (row2 w1 [.int .i64 (c 1)] 3 [.int .u64 (c 10), .int .u64 (c 11)] 31).2.1, (row2 w1 [.int .i64 (c 1)] 3 [.int .u64 (c 10), .int .u64 (c 11)] 31).2.2⟩)
      | exact bodyPost_ret (v := .tuple #[.string { data := #[115, 116, 111, 114, 101] }, .slice (some ⟨w1.heap.size + 1, 0, none⟩) 1 1, .slice (some ⟨w1.heap.size, 0, none⟩) 2 2]) (by simp [results, Tryd.results26, go_sem]) rfl (HF.out _ _ _ _ rfl ⟨IntR.block [c 1] 1 rfl (row2 w1 [.int .u64 (c 10), .int .u64 (c 11)] 31 [.int .i64 (c 1)] 3).2.1, IntR.block [c 10, c 11] 2 rfl (row2 w1 [.int .u64 (c 10), .int .u64 (c 11)] 31 [.int .i64 (c 1)] 3).1, (row2 w1 [.int .u64 (c 10), .int .u64 (c 11)] 31 [.int .i64 (c 1)] 3).2.2⟩)
set_option maxRecDepth 100000 in
set_option maxHeartbeats 1000000 in
theorem parts_5 (c : Ev) (w : World) (hk : c 0 = 5) : Calls Tryd.prog 26 #[.agg (evA c)] w (PartsRes c w) := by
  obtain ⟨w1, hw1⟩ : ∃ y, y = w.alloc (.cells (evA c) 36) := ⟨_, rfl⟩
  have hb1 : Below w.heap.size w w1 := hw1 ▸ bal (Below.refl _ _) _
  have hlt : w.heap.size < w1.heap.size := by rw [hw1]; simp
  have he : w1.heap[w.heap.size]? = some (.cells (evA c) 36 (0, 0)) := by rw [hw1]; exact World.alloc_heap_new _ _
  have HW1 := Lib.hid hw1
  have c0 : w1.cell? ⟨w.heap.size, 0, none⟩ = some (.int .i64 5) := by rw [row_cell he, ← hk]; rfl
  have c1 : w1.cell? ⟨w.heap.size, 1, none⟩ = some (.int .i64 (c 1)) := by rw [row_cell he]; rfl
  have c12 : w1.cell? ⟨w.heap.size, 12, none⟩ = some (.int .i64 (c 12)) := by rw [row_cell he]; rfl
  have c13 : w1.cell? ⟨w.heap.size, 13, none⟩ = some (.int .i64 (c 13)) := by rw [row_cell he]; rfl
  have HF : Hid (∀ e w' u v, e = .returned (.tuple #[.string { data := #[101, 118, 105, 99, 116] }, u, v]) → IntR .i64 w' u [c 1, c 12, c 13] ∧ IntR .u64 w' v [] ∧ Below w1.heap.size w1 w' → PartsRes c w e w') := Lib.hid (fun e w' u v h1 h2 => ⟨u, v, by rw [h1, hk]; rfl, fun _ => by rw [hk]; exact ⟨h2.1, h2.2.1⟩, hb1.trans (h2.2.2.mono hb1.size)⟩)
  generalize PartsRes c w = R at HF ⊢
  clear he hb1 hw1 hk
  go_enter Tryd.func26, Tryd.ntmps26
  go_upto_region 1 with fail
  rw [← HW1.out]
  go_upto_region 11 with fail
  go_region
  go_wp2
  exact bodyPost_ret (v := .tuple #[.string { data := #[101, 118, 105, 99, 116] }, .slice (some ⟨w1.heap.size, 0, none⟩) 3 3, .slice none 0 0]) (by simp [results, Tryd.results26, go_sem]) rfl (HF.out _ _ _ _ rfl ⟨IntR.block [c 1, c 12, c 13] 3 rfl (row1 w1 [.int .i64 (c 1), .int .i64 (c 12), .int .i64 (c 13)] 3).1, IntR.nil _ _, (row1 w1 [.int .i64 (c 1), .int .i64 (c 12), .int .i64 (c 13)] 3).2⟩)
set_option maxRecDepth 100000 in
set_option maxHeartbeats 1000000 in
theorem parts_6 (c : Ev) (w : World) (hk : c 0 = 6) : Calls Tryd.prog 26 #[.agg (evA c)] w (PartsRes c w) := by
  obtain ⟨w1, hw1⟩ : ∃ y, y = w.alloc (.cells (evA c) 36) := ⟨_, rfl⟩
  have hb1 : Below w.heap.size w w1 := hw1 ▸ bal (Below.refl _ _) _
  have hlt : w.heap.size < w1.heap.size := by rw [hw1]; simp
  have he : w1.heap[w.heap.size]? = some (.cells (evA c) 36 (0, 0)) := by rw [hw1]; exact World.alloc_heap_new _ _
  have HW1 := Lib.hid hw1
  have c0 : w1.cell? ⟨w.heap.size, 0, none⟩ = some (.int .i64 6) := by rw [row_cell he, ← hk]; rfl
  have c1 : w1.cell? ⟨w.heap.size, 1, none⟩ = some (.int .i64 (c 1)) := by rw [row_cell he]; rfl
  have c14 : w1.cell? ⟨w.heap.size, 14, none⟩ = some (.int .i64 (c 14)) := by rw [row_cell he]; rfl
  have HF : Hid (∀ e w' u v, e = .returned (.tuple #[.string { data := #[112, 114, 101, 102, 101, 116, 99, 104] }, u, v]) → IntR .i64 w' u [c 1, c 14] ∧ IntR .u64 w' v [] ∧ Below w1.heap.size w1 w' → PartsRes c w e w') := Lib.hid (fun e w' u v h1 h2 => ⟨u, v, by rw [h1, hk]; rfl, fun _ => by rw [hk]; exact ⟨h2.1, h2.2.1⟩, hb1.trans (h2.2.2.mono hb1.size)⟩)
  generalize PartsRes c w = R at HF ⊢
  clear he hb1 hw1 hk
  go_enter Tryd.func26, Tryd.ntmps26
  go_upto_region 1 with fail
  rw [← HW1.out]
  go_upto_region 13 with fail
  go_region
  go_wp2
  exact bodyPost_ret (v := .tuple #[.string { data := #[112, 114, 101, 102, 101, 116, 99, 104] }, .slice (some ⟨w1.heap.size, 0, none⟩) 2 2, .slice none 0 0]) (by simp [results, Tryd.results26, go_sem]) rfl (HF.out _ _ _ _ rfl ⟨IntR.block [c 1, c 14] 2 rfl (row1 w1 [.int .i64 (c 1), .int .i64 (c 14)] 3).1, IntR.nil _ _, (row1 w1 [.int .i64 (c 1), .int .i64 (c 14)] 3).2⟩)
end Sc
end Go.Proofs.YthgmanncmekeeaaDoor
