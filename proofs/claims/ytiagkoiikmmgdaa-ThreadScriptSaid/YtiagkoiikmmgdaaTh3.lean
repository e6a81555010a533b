/- package thread, over tables of any number of rows: May. -/
import Derived.Test.YtiagkoiikmmgdaaTh2
namespace Go.Proofs.Ytiagkoiikmmgdaa
set_option linter.unusedVariables false
set_option linter.unusedSimpArgs false
open Go.ChangeShapes Go.WideShapes Go.ChangeAt Go.RowKit Go.Shelf
open TabT

def MayT (x : Th) : Prop := 1 ≤ x.id ∧ 0 ≤ x.st ∧ x.st ≤ 4 ∧ 0 ≤ x.pr ∧ x.pr ≤ 7 ∧ 0 ≤ x.ca ∧ 0 ≤ x.wa ∧ (0 ≤ x.gi ∧ x.gi ≤ 4096) ∧ (0 ≤ x.nn ∧ x.nn ≤ 4096)
instance (x : Th) : Decidable (MayT x) := by unfold MayT; infer_instance
def mayT (x : Th) : Bool := decide (MayT x)
set_option maxRecDepth 100000 in
set_option maxHeartbeats 1000000 in
theorem mayAddr_any (a : Int) (w : World) : Calls Try.prog 29 #[.int .i64 a] w fun e w' => e = .returned (.bool (decide (0 ≤ a ∧ a ≤ 4096))) ∧ w = w' := by
  by_cases h : 0 ≤ a
  · by_cases h2 : a ≤ 4096
    all_goals
      go_enter Try.func29, Try.ntmps29
      go_wp2
      go_ret
      exact ⟨ret_bool (by simp [h, h2]), rfl⟩
  · go_enter Try.func29, Try.ntmps29
    go_wp2
    go_ret
    exact ⟨ret_bool (by first | exact decide_eq_false (by omega) | (simp; omega)), rfl⟩
theorem box_cells (w : World) (x : Th) (t : TypeId) : (w.alloc (.cells x.cells.toArray t)).cell? ⟨w.heap.size, 0, none⟩ = some (.int .i64 x.id) ∧ (w.alloc (.cells x.cells.toArray t)).cell? ⟨w.heap.size, 1, none⟩ = some (.int .i64 x.st) ∧ (w.alloc (.cells x.cells.toArray t)).cell? ⟨w.heap.size, 2, none⟩ = some (.int .i64 x.pr) ∧ (w.alloc (.cells x.cells.toArray t)).cell? ⟨w.heap.size, 9, none⟩ = some (.int .i64 x.ca) ∧ (w.alloc (.cells x.cells.toArray t)).cell? ⟨w.heap.size, 10, none⟩ = some (.int .i64 x.wa) ∧ (w.alloc (.cells x.cells.toArray t)).cell? ⟨w.heap.size, 16, none⟩ = some (.int .i64 x.gi) ∧ (w.alloc (.cells x.cells.toArray t)).cell? ⟨w.heap.size, 17, none⟩ = some (.int .i64 x.nn) := by
  have h := fun j => cell_cur (cur := x.cells) (heap_alloc_new w (.cells x.cells.toArray t)) j
  exact ⟨h 0, h 1, h 2, h 9, h 10, h 16, h 17⟩
set_option maxRecDepth 100000 in
set_option maxHeartbeats 2000000 in
theorem may_any (w : World) (x : Th) : Calls Try.prog 15 #[.agg x.cells.toArray] w fun e w' => e = .returned (.bool (mayT x)) ∧ Below w.heap.size w w' := by
  obtain ⟨b0, b1, b2, b9, b10, b16, b17⟩ := box_cells w x 35
  have hB := bal (Below.refl w.heap.size w) (.cells x.cells.toArray 35)
  have HB := Lib.hid hB
  clear hB
  have hne : x.cells.toArray ≠ #[] := by simp [Th.cells]
  have hsz : x.cells.toArray.size = 24 := rfl
  unfold mayT MayT
  generalize x.cells.toArray = xs at *
  obtain ⟨x_id, x_st, x_pr, x_m0, x_m1, x_m2, x_m3, x_bd, x_got, x_ca, x_wa, x_o0, x_o1, x_o2, x_o3, x_ob, x_gi, x_nn, x_cs, x_fl, x_rh, x_rw, x_va, x_vl⟩ := x
  simp only [] at b0 b1 b2 b9 b10 b16 b17 ⊢
  by_cases h0 : 1 ≤ x_id
  · by_cases h1 : 0 ≤ x_st
    · by_cases h2 : x_st ≤ 4
      · by_cases h3 : 0 ≤ x_pr
        · by_cases h4 : x_pr ≤ 7
          · by_cases h5 : 0 ≤ x_ca
            · by_cases h6 : 0 ≤ x_wa
              · by_cases h7 : 0 ≤ x_gi ∧ x_gi ≤ 4096
                · by_cases h8 : 0 ≤ x_nn ∧ x_nn ≤ 4096
                  · go_enter Try.func15, Try.ntmps15
                    go_wp2_with (go_at_call 29; refine (mayAddr_any _ _).mono ?_; rintro e w1 ⟨rfl, rfl⟩)
                    go_ret
                    exact ⟨ret_bool (by first | exact decide_eq_false (by omega) | exact (decide_eq_false (by omega)).symm | exact decide_eq_true (by omega) | exact (decide_eq_true (by omega)).symm | (simp [h0, h1, h2, h3, h4, h5, h6, h7, h8]; done) | (simp; omega)), HB.out⟩
                  · go_enter Try.func15, Try.ntmps15
                    go_wp2_with (go_at_call 29; refine (mayAddr_any _ _).mono ?_; rintro e w1 ⟨rfl, rfl⟩)
                    go_ret
                    exact ⟨ret_bool (by first | exact decide_eq_false (by omega) | exact (decide_eq_false (by omega)).symm | exact decide_eq_true (by omega) | exact (decide_eq_true (by omega)).symm | (simp [h0, h1, h2, h3, h4, h5, h6, h7, h8]; done) | (simp; omega)), HB.out⟩
                · go_enter Try.func15, Try.ntmps15
                  go_wp2_with (go_at_call 29; refine (mayAddr_any _ _).mono ?_; rintro e w1 ⟨rfl, rfl⟩)
                  go_ret
                  exact ⟨ret_bool (by first | exact decide_eq_false (by omega) | exact (decide_eq_false (by omega)).symm | exact decide_eq_true (by omega) | exact (decide_eq_true (by omega)).symm | (simp [h0, h1, h2, h3, h4, h5, h6, h7]; done) | (simp; omega)), HB.out⟩
              · go_enter Try.func15, Try.ntmps15
                go_wp2_with (go_at_call 29; refine (mayAddr_any _ _).mono ?_; rintro e w1 ⟨rfl, rfl⟩)
                go_ret
                exact ⟨ret_bool (by first | exact decide_eq_false (by omega) | exact (decide_eq_false (by omega)).symm | exact decide_eq_true (by omega) | exact (decide_eq_true (by omega)).symm | (simp [h0, h1, h2, h3, h4, h5, h6]; done) | (simp; omega)), HB.out⟩
            · go_enter Try.func15, Try.ntmps15
              go_wp2_with (go_at_call 29; refine (mayAddr_any _ _).mono ?_; rintro e w1 ⟨rfl, rfl⟩)
              go_ret
              exact ⟨ret_bool (by first | exact decide_eq_false (by omega) | exact (decide_eq_false (by omega)).symm | exact decide_eq_true (by omega) | exact (decide_eq_true (by omega)).symm | (simp [h0, h1, h2, h3, h4, h5]; done) | (simp; omega)), HB.out⟩
          · go_enter Try.func15, Try.ntmps15
            go_wp2_with (go_at_call 29; refine (mayAddr_any _ _).mono ?_; rintro e w1 ⟨rfl, rfl⟩)
            go_ret
            exact ⟨ret_bool (by first | exact decide_eq_false (by omega) | exact (decide_eq_false (by omega)).symm | exact decide_eq_true (by omega) | exact (decide_eq_true (by omega)).symm | (simp [h0, h1, h2, h3, h4]; done) | (simp; omega)), HB.out⟩
        · go_enter Try.func15, Try.ntmps15
          go_wp2_with (go_at_call 29; refine (mayAddr_any _ _).mono ?_; rintro e w1 ⟨rfl, rfl⟩)
          go_ret
          exact ⟨ret_bool (by first | exact decide_eq_false (by omega) | exact (decide_eq_false (by omega)).symm | exact decide_eq_true (by omega) | exact (decide_eq_true (by omega)).symm | (simp [h0, h1, h2, h3]; done) | (simp; omega)), HB.out⟩
      · go_enter Try.func15, Try.ntmps15
        go_wp2_with (go_at_call 29; refine (mayAddr_any _ _).mono ?_; rintro e w1 ⟨rfl, rfl⟩)
        go_ret
        exact ⟨ret_bool (by first | exact decide_eq_false (by omega) | exact (decide_eq_false (by omega)).symm | exact decide_eq_true (by omega) | exact (decide_eq_true (by omega)).symm | (simp [h0, h1, h2]; done) | (simp; omega)), HB.out⟩
    · go_enter Try.func15, Try.ntmps15
      go_wp2_with (go_at_call 29; refine (mayAddr_any _ _).mono ?_; rintro e w1 ⟨rfl, rfl⟩)
      go_ret
      exact ⟨ret_bool (by first | exact decide_eq_false (by omega) | exact (decide_eq_false (by omega)).symm | exact decide_eq_true (by omega) | exact (decide_eq_true (by omega)).symm | (simp [h0, h1]; done) | (simp; omega)), HB.out⟩
  · go_enter Try.func15, Try.ntmps15
    go_wp2_with (go_at_call 29; refine (mayAddr_any _ _).mono ?_; rintro e w1 ⟨rfl, rfl⟩)
    go_ret
    exact ⟨ret_bool (by first | exact decide_eq_false (by omega) | exact (decide_eq_false (by omega)).symm | exact decide_eq_true (by omega) | exact (decide_eq_true (by omega)).symm | (simp [h0]; done) | (simp; omega)), HB.out⟩
end Go.Proofs.Ytiagkoiikmmgdaa
