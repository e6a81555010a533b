/- The slots of nodes: at, May, Set, Get, Size. -/
import Derived.Test.YtplanbihejodoaaDoorSlo2
namespace Go.Proofs.YtplanbihejodoaaDoor
set_option linter.unusedVariables false
set_option linter.unusedSimpArgs false
open Go.ChangeShapes Go.WideShapes Go.ChangeAt Go.RowKit Go.Shelf

theorem SlAt.second {w : World} {b m : Nat} {a o r : Int} (h : SlAt w b m a o r) : w.cell? ⟨m, 8, none⟩ = some (.int .i64 a) ∧ w.cell? ⟨m, 9, none⟩ = some (.int .i64 o) ∧ w.cell? ⟨m, 10, none⟩ = some (.int .i64 r) ∧ w.cell? ⟨m, 11, none⟩ = some (.int .u64 0) ∧ w.cell? ⟨m, 12, none⟩ = some (.int .i64 0) ∧ w.cell? ⟨m, 13, none⟩ = some (.int .i64 0) ∧ w.cell? ⟨m, 14, none⟩ = some (.int .i64 0) ∧ w.cell? ⟨m, 15, none⟩ = some (.int .i64 0) :=
  ⟨h.cell 8, h.cell 9, h.cell 10, h.cell 11, h.cell 12, h.cell 13, h.cell 14, h.cell 15⟩
theorem SlAt.free {w : World} {b m : Nat} {a o r : Int} (h : SlAt w b m a o r) (j : Nat) : w.frozen? ⟨m, j, none⟩ = false := by
  obtain ⟨g, c, h1, h2, h3, h4, h5, h6⟩ := h
  simp [World.frozen?, h6]
theorem SlAt.mlt {w : World} {b m : Nat} {a o r : Int} (h : SlAt w b m a o r) : m < w.heap.size := by
  obtain ⟨g, c, h1, h2, h3, h4, h5, h6⟩ := h
  exact (Array.getElem?_eq_some_iff.1 h6).1
/-- Stores one behind the other. -/
def setL (w : World) (m : Nat) : Nat → List Value → World
  | _, [] => w
  | k, v :: t => setL (w.setCell ⟨m, k, none⟩ v) m (k + 1) t
def putL (cs : Array Value) : Nat → List Value → Array Value
  | _, [] => cs
  | k, v :: t => putL (cs.setIfInBounds k v) (k + 1) t
theorem setL_other {m j : Nat} (hj : j ≠ m) : ∀ (L : List Value) (w : World) (k : Nat), (setL w m k L).heap[j]? = w.heap[j]?
  | [], _, _ => rfl
  | v :: t, w, k => (setL_other hj t _ (k + 1)).trans (Go.heap_setCell_other _ _ _ _ hj)
theorem setL_same {m : Nat} {T : TypeId} : ∀ (L : List Value) (w : World) (k : Nat) (cs : Array Value), w.heap[m]? = some (.cells cs T (0, 0)) → (setL w m k L).heap[m]? = some (.cells (putL cs k L) T (0, 0))
  | [], _, _, _, h => h
  | v :: t, w, k, cs, h => setL_same t _ (k + 1) _ (Go.heap_setCell_same _ _ _ _ _ _ h)
theorem setL_rest {m : Nat} : ∀ (L : List Value) (w : World) (k : Nat), (setL w m k L).os = w.os ∧ (setL w m k L).tape = w.tape ∧ (setL w m k L).output = w.output ∧ (setL w m k L).heap.size = w.heap.size
  | [], _, _ => ⟨rfl, rfl, rfl, rfl⟩
  | v :: t, w, k => by
    obtain ⟨h1, h2, h3, h4⟩ := setL_rest (m := m) t (w.setCell ⟨m, k, none⟩ v) (k + 1)
    exact ⟨h1, h2, h3, h4.trans (by simp)⟩
def capL8 : List Value := [.int .i64 8, .int .i64 3, .int .i64 7, .int .u64 0, .int .i64 0, .int .i64 0, .int .i64 0, .int .i64 0]
/-- Set's own stores. -/
def setE (w : World) (m : Nat) : World := setL w m 8 capL8
theorem setE_o {w : World} {m k : Nat} (hk : k ≠ m) : (setE w m).heap[k]? = w.heap[k]? := setL_other hk _ _ _
theorem setE_m {w : World} {m : Nat} (h : w.heap[m]? = some (.cells (caps2 0 0 0) 34 (0, 0))) : (setE w m).heap[m]? = some (.cells (caps2 8 3 7) 34 (0, 0)) := by
  have e2 : putL (caps2 0 0 0) 8 capL8 = caps2 8 3 7 := by kernel_rfl
  rw [← e2]
  exact setL_same capL8 w 8 _ h
theorem setE_r (w : World) (m : Nat) : (setE w m).os = w.os ∧ (setE w m).tape = w.tape ∧ (setE w m).output = w.output ∧ (setE w m).heap.size = w.heap.size := setL_rest _ _ _
theorem setE_at {w : World} {b m B : Nat} (h : SlAt w b m 0 0 0) (hB : B ≤ m) : SlAt (setE w m) b m 8 3 7 ∧ Below B w (setE w m) := by
  obtain ⟨g, c, h1, ⟨r1, r2, r3⟩, h3, h4, h5, h6⟩ := h
  have em := setE_m h6
  have eo := fun k (hk : k ≠ m) => setE_o (w := w) hk
  obtain ⟨s1, s2, s3, hs⟩ := setE_r w m
  generalize setE w m = W at *
  refine ⟨?_, ?_⟩
  · unfold SlAt RowC
    exact ⟨g, c, (World.cell?_of_block (eo b h4)).trans h1, ⟨(World.cell?_of_block (eo g h3)).trans r1, (World.cell?_of_block (eo g h3)).trans r2, by rw [hs]; exact r3⟩, h3, h4, by rw [hs]; exact h5, em⟩
  · exact ⟨s1, s2, s3, by rw [hs]; exact Nat.le_refl _, fun k hk => eo k (by omega)⟩
set_option maxRecDepth 100000 in
set_option maxHeartbeats 1000000 in
theorem at_one (w : World) (b m : Nat) (a o r : Int) (h : SlAt w b m a o r) :
    Calls Tryd.prog 30 #[.pointer (some ⟨b, 0, none⟩), .agg #[.int .i64 7, .int .i64 1]] w fun e w' => e = .returned (.tuple #[.pointer (some ⟨m, 8, none⟩), .int .i64 0]) ∧ Below w.heap.size w w' := by
  have H := Lib.hid h
  clear h
  go_enter Tryd.func30, Tryd.ntmps30
  go_wp2
  obtain ⟨w1, hw1⟩ : ∃ x, x = w.alloc (.cells #[.int .i64 7, .int .i64 1] 31) := ⟨_, rfl⟩
  rw [← hw1]
  have x0 : w1.cell? ⟨w.heap.size, 0, none⟩ = some (.int .i64 7) := by rw [hw1]; simp [go_sem]
  have x1 : w1.cell? ⟨w.heap.size, 1, none⟩ = some (.int .i64 1) := by rw [hw1]; simp [go_sem]
  have xs : w.heap.size < w1.heap.size := by rw [hw1]; simp
  have B1 : Below w.heap.size w w1 := hw1 ▸ bal (Below.refl _ _) _
  have H1 := H.out.call B1
  clear hw1
  obtain ⟨g, c, h1, h2, h3, h4, h5, h6⟩ := H1
  have R0 := Lib.hid (fun v (hw : KeptQ w1.heap.size w1 v) => (hw.1.cell (p := ⟨w.heap.size, 0, none⟩) xs).trans x0)
  have RG := Lib.hid (fun v (hw : KeptQ w1.heap.size w1 v) => get_one v b m g c (Nat.lt_of_lt_of_le h5 hw.2) ((hw.1.cell (p := ⟨b, 0, none⟩) h5).trans h1) (h2.go hw.1))
  refine wp_region_keptQ w1.heap.size w1 (by kernel_rfl) (by kernel_rfl) (KeptQ.refl (Nat.le_refl _)) ?_
  repeat (first
    | go_big_quiet_skip
    | (go_big_quiet_want; first
      | (refine quietQ_load_cell 3 _ rfl ⟨w.heap.size, 0, none⟩ rfl _ R0.out _ Tryd.underlying3 rfl ?_; simp only [Act.put, List.setIfInBounds_toArray, List.set_cons_zero, List.set_cons_succ]; go_big_quiet_on)
      | (go_big_quiet_op; first
        | go_big_quiet_on
        | (refine ⟨_, fun _ _ => rfl, ?_⟩; go_big_quiet_on)
        | go_big_quiet_call ((intro hw; go_at_call 27; refine (RG.out _ hw).mono ?_; rintro e w7 ⟨rfl, hb7⟩; exact ⟨rfl, hw.call hb7⟩)))))
  refine wpQuiet_nil ?_
  intro w2 hw2
  have y1 := (hw2.1.cell (p := ⟨w.heap.size, 1, none⟩) xs).trans x1
  have y2 := (h2.go hw2.1).2.1
  have B2 := hw2.below (m := w.heap.size) (by omega) B1
  clear R0 RG hw2 h1 h2 h3 h4 h5 h6 x0 x1
  go_wp2
  go_quiet (fail)
  go_wp2
  go_quiet (fail)
  go_wp2
  go_ret2
  exact ⟨by simp, below_drewN (below_drewN B2 _) _⟩
set_option maxHeartbeats 1000000 in
theorem may_e (w : World) : Calls Tryd.prog 24 #[capE 8 3 7] w fun e w' => e = .returned (.bool true) ∧ Below w.heap.size w w' := by
  have ho : ∀ v, Calls Tryd.prog 34 #[capE 8 3 7] v fun e w' => e = .returned (.bool true) ∧ Below v.heap.size v w' := fun v => by
    go_enter Tryd.func34, Tryd.ntmps34
    go_wp2
    go_ret
    exact ⟨rfl, by repeat (first | exact Below.refl _ _ | refine bal ?_ _)⟩
  have hr : ∀ v, Calls Tryd.prog 37 #[.int .i64 7] v fun e w' => e = .returned (.bool true) ∧ v = w' := fun v => by
    go_enter Tryd.func37, Tryd.ntmps37
    go_wp2
    go_ret
    exact ⟨rfl, rfl⟩
  have HO := Lib.hid ho
  have HR := Lib.hid hr
  clear ho hr
  go_enter Tryd.func24, Tryd.ntmps24
  go_wp2
  go_region
  all_goals
    go_wp2_with (first
      | (go_at_call 34; refine (HO.out _).mono ?_; rintro e w1 ⟨rfl, hb1⟩; obtain ⟨hc1, hf1⟩ := bcell hb1; have hz1 := hb1.size; have hz2 : w.heap.size < w1.heap.size := (by simp at hz1; omega))
      | (go_at_call 37; refine (HR.out _).mono ?_; rintro e w2 ⟨rfl, rfl⟩))
    go_ret
    exact ⟨rfl, by repeat (first | exact Below.refl _ _ | assumption | refine below_drewN ?_ _ | refine Below.drew ?_ | refine bal ?_ _ | refine bgo ?_ (by assumption) | refine Below.setCell ?_ (by simp) _)⟩
end Go.Proofs.YtplanbihejodoaaDoor
