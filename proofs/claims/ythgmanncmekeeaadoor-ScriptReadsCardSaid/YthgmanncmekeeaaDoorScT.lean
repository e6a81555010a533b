/- chapter 35: a line read, by the package. -/
import Derived.Test.YthgmanncmekeeaaDoorScS
import Derived.Test.YthgmanncmekeeaaDoorScP
import Derived.Laws.Tables
namespace Go.Proofs.YthgmanncmekeeaaDoor
set_option linter.unusedVariables false
set_option linter.unusedSimpArgs false
open Go.ChangeShapes Go.WideShapes Go.ChangeAt Go.RowKit Go.Shelf
attribute [-go_sem] binOp_string_add binOp_string_eql binOp_string_neq run_index_string
attribute [local go_sem] Sc.bs_size
attribute [local go_sem] Oper.semAt_some
namespace Sc
theorem spl_len (c : UInt8) : ∀ (l x : Bs), x ∈ spl c l → x.length ≤ l.length
  | [], x, h => by
    simp [spl] at h
    simp [h]
  | y :: l, x, h => by
    have ih := spl_len c l
    by_cases e : y = c
    · subst e
      rw [spl_eq] at h
      rcases List.mem_cons.1 h with h | h
      · simp [h]
      · have := ih x h
        simp only [List.length_cons]
        omega
    · cases hq : spl c l with
      | nil => exact absurd hq (spl_ne c l)
      | cons a t =>
        rw [spl_ne_cons l e hq] at h
        rcases List.mem_cons.1 h with h | h
        · have := ih a (by rw [hq]; exact List.mem_cons_self)
          simp only [h, List.length_cons]
          omega
        · have := ih x (by rw [hq]; exact List.mem_cons_of_mem _ h)
          simp only [List.length_cons]
          omega
theorem spl_count (c : UInt8) : ∀ (l : Bs), (spl c l).length ≤ l.length + 1
  | [] => by simp [spl]
  | y :: l => by
    have ih := spl_count c l
    by_cases e : y = c
    · subst e
      rw [spl_eq]
      simp only [List.length_cons]
      omega
    · cases hq : spl c l with
      | nil => exact absurd hq (spl_ne c l)
      | cons a t =>
        rw [spl_ne_cons l e hq]
        rw [hq] at ih
        simp only [List.length_cons] at ih ⊢
        omega
theorem split_row (l : Bs) (hl : l.length ≤ 100000) (w : World) (a : Bs) (ws : List Bs) (h : spl 32 l = a :: ws) : Calls Tryd.prog 38 #[.string (bs l), .string { data := #[32] }] w fun e w' => ∃ g, e = .returned (.slice (some ⟨g, 0, none⟩) (ws.length + 1) (ws.length + 1)) ∧ w.heap.size ≤ g ∧ g < w'.heap.size ∧ w'.heap[g]? = some (.cells ((a :: ws).map strV).toArray 9 (0, 0)) ∧ Below w.heap.size w w' := by
  refine (split_any l hl w).mono ?_
  rintro e w' ⟨rfl, rfl⟩
  rw [h]
  exact ⟨_, rfl, Nat.le_refl _, by simp, World.alloc_heap_new _ _, bal (Below.refl _ _) _⟩
theorem ev_one (c : Ev) : (evA c).all (·.oneCell') = true := by simp [evA, Value.oneCell']
theorem setRow_same (w : World) (g : Nat) (cs old : Array Value) (t : TypeId) (h : w.heap[g]? = some (.cells old t (0, 0))) : (w.setRow g cs).heap[g]? = some (.cells cs t (0, 0)) := by
  simp [World.setRow, Array.getElem?_modify, h]
theorem setRow_diff (w : World) (g k : Nat) (cs : Array Value) (h : k ≠ g) : (w.setRow g cs).heap[k]? = w.heap[k]? := by
  simp [World.setRow, Array.getElem?_modify, h.symm]
theorem below_row {B g : Nat} {w0 w : World} (hb : Below B w0 w) (hg : B ≤ g) (cs : Array Value) : Below B w0 (w.setRow g cs) :=
  ⟨hb.os, hb.tape, hb.output, by simp [World.setRow]; exact hb.size, fun k hk => (setRow_diff w g k cs (by omega)).trans (hb.block k hk)⟩
theorem load_ev_row {w : World} {g : Nat} {c : Ev} (h : w.heap[g]? = some (.cells (evA c) 36 (0, 0))) : (loadVar 36 ⟨g, 0, none⟩).run Tryd.prog w = .ok (evV c) w :=
  run_loadVar_row _ _ _ _ _ _ _ h Tryd.underlying36 rfl (by kernel_rfl)
/-- The two results' boxes. -/
structure RB (N : Nat) (W : World) (c : Ev) (b : Bool) : Prop where
  ev : W.heap[N]? = some (.cells (evA c) 36 (0, 0))
  ok : W.heap[N + 1]? = some (.cells #[.bool b] 4 (0, 0))
theorem RB.start (w : World) : RB w.heap.size ((w.alloc (.cells (evA (ev0 0)) 36)).alloc (.cells #[.bool false] 4)) (ev0 0) false :=
  ⟨(Below.heap_alloc _ _ _ (by simp)).trans (World.alloc_heap_new w _), by
    have := World.alloc_heap_new (w.alloc (.cells (evA (ev0 0)) 36)) (.cells #[.bool false] 4)
    rwa [World.size_alloc] at this⟩
theorem RB.lt {N : Nat} {W : World} {c : Ev} {b : Bool} (h : RB N W c b) : N + 1 < W.heap.size := (Array.getElem?_eq_some_iff.1 h.ok).1
theorem RB.call {N : Nat} {W V : World} {c : Ev} {b : Bool} (h : RB N W c b) (hb : Below W.heap.size W V) : RB N V c b :=
  ⟨(hb.block _ (by have := h.lt; omega)).trans h.ev, (hb.block _ h.lt).trans h.ok⟩
theorem RB.row {N : Nat} {W : World} {c d : Ev} {b : Bool} (h : RB N W c b) : RB N (W.setRow N (evA d)) d b :=
  ⟨setRow_same _ _ _ _ _ h.ev, (setRow_diff _ _ _ _ (by omega)).trans h.ok⟩
theorem RB.put {N : Nat} {W : World} {c : Ev} {b : Bool} (h : RB N W c b) (x : Bool) : RB N (W.setCell ⟨N + 1, 0, none⟩ (.bool x)) c x :=
  ⟨(Below.heap_setCell _ _ _ _ (by show N ≠ N + 1; omega)).trans h.ev, by rw [Go.heap_setCell_same _ _ _ _ _ _ h.ok]; rfl⟩
theorem RB.cell {N : Nat} {W : World} {c : Ev} {b : Bool} (h : RB N W c b) : W.cell? ⟨N + 1, 0, none⟩ = some (.bool b) := by rw [row_cell h.ok]; rfl
theorem RB.load {N : Nat} {W : World} {c : Ev} {b : Bool} (h : RB N W c b) : (loadVar 4 ⟨N + 1, 0, none⟩).run Tryd.prog W = .ok (.bool b) W := by
  have := h.cell
  simp [loadVar, go_sem, this]
theorem RB.free {N : Nat} {W : World} {c : Ev} {b : Bool} (h : RB N W c b) : W.frozen? ⟨N + 1, 0, none⟩ = false := by simp [World.frozen?, h.ok]
def EvRes (l : Bs) (w : World) (e : Ending) (w' : World) : Prop := ∃ (d : Ev) (b : Bool), e = .returned (.tuple #[evV d, .bool b]) ∧ (evOf l = none → b = false) ∧ (∀ c, evOf l = some c → b = true ∧ d = c) ∧ Below w.heap.size w w'
set_option maxRecDepth 100000 in
set_option maxHeartbeats 1000000 in
theorem event_none (l : Bs) (hl : l.length ≤ 100000) (w : World) (a : Bs) (ws : List Bs) (h : spl 32 l = a :: ws) (hk : kd a = 0) : Calls Tryd.prog 29 #[.string (bs l)] w (EvRes l w) := by
  have hno : evOf l = none := by unfold evOf evW; rw [h]; exact if_pos hk
  have HS := Lib.hid (fun v => split_row l hl v a ws h)
  have HK : Hid (∀ v, Calls Tryd.prog 39 #[.string (bs a)] v fun e w' => e = .returned (.int .i64 0) ∧ v = w') := Lib.hid (fun v => by have := kindOf_any a v; rwa [hk] at this)
  have HF : Hid (∀ e w', e = .returned (.tuple #[evV (ev0 0), .bool false]) → Below w.heap.size w w' → EvRes l w e w') := Lib.hid (fun e w' h1 h2 => ⟨_, _, h1, fun _ => rfl, fun c hc => (by rw [hno] at hc; cases hc), h2⟩)
  clear hno hk h hl
  obtain ⟨m, hm⟩ : ∃ m, m = ws.length := ⟨_, rfl⟩
  rw [← hm] at HS
  generalize hR : EvRes l w = R at HF ⊢
  clear hR
  have HZ := Lib.hid (RB.start w)
  have HB0 : Hid (Below w.heap.size w ((w.alloc (.cells (evA (ev0 0)) 36)).alloc (.cells #[.bool false] 4))) := Lib.hid (bal (bal (Below.refl _ _) _) _)
  have HFIN : Hid (∀ W w2, Below W.heap.size W w2 → RB w.heap.size W (ev0 0) false → Below w.heap.size w W → (w2.alloc (.cells #[.int .i64 0, .int .i64 0, .int .i64 0, .int .u64 0, .int .u64 0, .int .u64 0, .int .u64 0, .int .u64 0, .int .u64 0, .int .u64 0, .int .u64 0, .int .u64 0, .int .i64 0, .int .i64 0, .int .i64 0] 36)).heap[w.heap.size]? = some (.cells (evA (ev0 0)) 36 (0, 0)) ∧ RB w.heap.size ((w2.alloc (.cells #[.int .i64 0, .int .i64 0, .int .i64 0, .int .u64 0, .int .u64 0, .int .u64 0, .int .u64 0, .int .u64 0, .int .u64 0, .int .u64 0, .int .u64 0, .int .u64 0, .int .i64 0, .int .i64 0, .int .i64 0] 36)).setRow w.heap.size (evA (ev0 0))) (ev0 0) false ∧ Below w.heap.size w ((w2.alloc (.cells #[.int .i64 0, .int .i64 0, .int .i64 0, .int .u64 0, .int .u64 0, .int .u64 0, .int .u64 0, .int .u64 0, .int .u64 0, .int .u64 0, .int .u64 0, .int .u64 0, .int .i64 0, .int .i64 0, .int .i64 0] 36)).setRow w.heap.size (evA (ev0 0)))) := Lib.hid (fun W w2 h1 h2 h3 => by
    have k1 : RB w.heap.size (w2.alloc (.cells #[.int .i64 0, .int .i64 0, .int .i64 0, .int .u64 0, .int .u64 0, .int .u64 0, .int .u64 0, .int .u64 0, .int .u64 0, .int .u64 0, .int .u64 0, .int .u64 0, .int .i64 0, .int .i64 0, .int .i64 0] 36)) (ev0 0) false := h2.call (bal h1 _)
    exact ⟨k1.ev, RB.row (d := ev0 0) k1, below_row (bal (h3.trans (h1.mono h3.size)) _) (Nat.le_refl _) _⟩)
  go_enter Tryd.func29, Tryd.ntmps29
  go_wp2_with (first
    | (go_at_call 38; (with_reducible refine (HS.out _).mono ?_); rintro e w2 ⟨g, rfl, hg0, hg1, hgb, hb2⟩; have hgc : w2.cell? ⟨g, 0, none⟩ = some (.string (bs a)) := (by rw [row_cell hgb]; rfl); have HV := Lib.hid (HFIN.out _ _ hb2 HZ.out HB0.out); clear hb2 hgb)
    | (go_at_call 39; (with_reducible refine (HK.out _).mono ?_); rintro e w3 ⟨rfl, rfl⟩)
    | (refine wpList_store_row rfl 36 _ _ rfl w.heap.size _ rfl rfl _ _ HV.out.1 (by kernel_rfl) rfl (ev_one (ev0 0)) ?_; generalize hVV : World.setRow _ _ _ = V; have HR : Hid (RB w.heap.size V (ev0 0) false) := Lib.hid (by rw [← hVV]; exact HV.out.2.1); have HBV : Hid (Below w.heap.size w V) := Lib.hid (by rw [← hVV]; exact HV.out.2.2); have q0 := HR.out.cell; have q1 := HR.out.free; clear hVV HV))
  have k2 := HR.out.put false
  have y0 := load_ev_row k2.ev
  have y1 := k2.load
  exact bodyPost_ret (v := .tuple #[evV (ev0 0), .bool false]) (by simp [results, Tryd.results29, asAddr, Sem.run_bind, Sem.run_pure, Result.andThen_ok, y0, y1]) rfl (HF.out _ _ rfl (HBV.out.setCell (p := ⟨w.heap.size + 1, 0, none⟩) (by show w.heap.size ≤ w.heap.size + 1; omega) _))
end Sc
end Go.Proofs.YthgmanncmekeeaaDoor
