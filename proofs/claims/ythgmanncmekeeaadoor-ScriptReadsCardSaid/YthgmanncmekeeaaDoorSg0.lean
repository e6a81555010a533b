/- chapter 35: a line read by the own answer: no kind. -/
import Derived.Test.YthgmanncmekeeaaDoorSf2
namespace Go.Proofs.YthgmanncmekeeaaDoor
set_option linter.unusedVariables false
set_option linter.unusedSimpArgs false
open Go.ChangeShapes Go.WideShapes Go.ChangeAt Go.RowKit Go.Shelf
attribute [-go_sem] binOp_string_add binOp_string_eql binOp_string_neq run_index_string
attribute [local go_sem] Sc.bs_size
attribute [local go_sem] Oper.semAt_some
namespace Sc
set_option maxRecDepth 100000 in
set_option maxHeartbeats 2000000 in
theorem evref_0 (l : Bs) (hl : l.length ≤ 70000) (w : World) (a : Bs) (ws : List Bs) (h : spl 32 l = a :: ws) (hk : kd a = 0) : Calls Tryd.prog 31 #[.string (bs l)] w (EvRes l w) := by
  have hno : evOf l = none := by unfold evOf evW; rw [h]; exact if_pos hk
  obtain ⟨m, hm⟩ : ∃ m, m = ws.length := ⟨_, rfl⟩
  have HS := Lib.hid (fun v => refsplit_row l hl v a ws h m hm.symm)
  have HF : Hid (∀ e w', e = .returned (.tuple #[evV (ev0 0), .bool false]) → Below w.heap.size w w' → EvRes l w e w') := Lib.hid (fun e w' h1 h2 => ⟨_, _, h1, fun _ => rfl, fun c hc => (by rw [hno] at hc; cases hc), h2⟩)
  have he1 : ∀ w, (binOp .eql 9 (.string (bs a)) (.string { data := #[112, 105, 99, 107] })).run Tryd.prog w = .ok (.bool false) w := fun w => (eql_bs a [112, 105, 99, 107] w).trans (by rw [decide_eq_false (fun e => by subst e; exact absurd hk (by decide))])
  have he2 : ∀ w, (binOp .eql 9 (.string (bs a)) (.string { data := #[99, 97, 108, 108] })).run Tryd.prog w = .ok (.bool false) w := fun w => (eql_bs a [99, 97, 108, 108] w).trans (by rw [decide_eq_false (fun e => by subst e; exact absurd hk (by decide))])
  have he3 : ∀ w, (binOp .eql 9 (.string (bs a)) (.string { data := #[108, 111, 97, 100] })).run Tryd.prog w = .ok (.bool false) w := fun w => (eql_bs a [108, 111, 97, 100] w).trans (by rw [decide_eq_false (fun e => by subst e; exact absurd hk (by decide))])
  have he4 : ∀ w, (binOp .eql 9 (.string (bs a)) (.string { data := #[115, 116, 111, 114, 101] })).run Tryd.prog w = .ok (.bool false) w := fun w => (eql_bs a [115, 116, 111, 114, 101] w).trans (by rw [decide_eq_false (fun e => by subst e; exact absurd hk (by decide))])
  have he5 : ∀ w, (binOp .eql 9 (.string (bs a)) (.string { data := #[101, 118, 105, 99, 116] })).run Tryd.prog w = .ok (.bool false) w := fun w => (eql_bs a [101, 118, 105, 99, 116] w).trans (by rw [decide_eq_false (fun e => by subst e; exact absurd hk (by decide))])
  have he6 : ∀ w, (binOp .eql 9 (.string (bs a)) (.string { data := #[112, 114, 101, 102, 101, 116, 99, 104] })).run Tryd.prog w = .ok (.bool false) w := fun w => (eql_bs a [112, 114, 101, 102, 101, 116, 99, 104] w).trans (by rw [decide_eq_false (fun e => by subst e; exact absurd hk (by decide))])
  clear hno hk h hl hm
  generalize hR : EvRes l w = R at HF ⊢
  clear hR
  have HZ : Hid (∀ V, Below w.heap.size w V → V.heap[w.heap.size]? = some (.cells (evA (ev0 0)) 36 (0, 0)) → (V.setRow w.heap.size (evA (ev0 0))).heap[w.heap.size]? = some (.cells (evA (ev0 0)) 36 (0, 0)) ∧ Below w.heap.size w (V.setRow w.heap.size (evA (ev0 0)))) := Lib.hid (fun V h1 h2 => ⟨setRow_same _ _ _ _ _ h2, below_row h1 (Nat.le_refl _) _⟩)
  have hbz : Below w.heap.size w (w.alloc (.cells (evA (ev0 0)) 36)) := bal (Below.refl _ _) _
  have hzz : (w.alloc (.cells (evA (ev0 0)) 36)).heap[w.heap.size]? = some (.cells (evA (ev0 0)) 36 (0, 0)) := World.alloc_heap_new _ _
  have HST : Hid (∀ V, Below (w.alloc (.cells (evA (ev0 0)) 36)).heap.size (w.alloc (.cells (evA (ev0 0)) 36)) V → Below w.heap.size w V ∧ V.heap[w.heap.size]? = some (.cells (evA (ev0 0)) 36 (0, 0))) := Lib.hid (fun V h => ⟨hbz.trans (h.mono (by simp)), (h.block _ (by simp)).trans hzz⟩)
  clear hbz hzz
  go_enter Tryd.func31, Tryd.ntmps31
  go_wp2_with (first
    | (go_at_call 30; (with_reducible refine (HS.out _).mono ?_); rintro e w2 ⟨g, cap, rfl, hcap, hR, hgc, hb2⟩; have HV := Lib.hid (HST.out _ hb2); clear hb2 hcap hR)
    | (refine wpList_store_row rfl 36 _ _ rfl w.heap.size _ rfl rfl _ _ HV.out.2 (by kernel_rfl) rfl (ev_one (ev0 0)) ?_; generalize hVV : World.setRow _ _ _ = V; have HQ : Hid (V.heap[w.heap.size]? = some (.cells (evA (ev0 0)) 36 (0, 0)) ∧ Below w.heap.size w V) := Lib.hid (by rw [← hVV]; exact HZ.out _ HV.out.1 HV.out.2); clear hVV))
  have y0 := load_ev_row HQ.out.1
  exact bodyPost_ret (v := .tuple #[evV (ev0 0), .bool false]) (by simp [results, Tryd.results31, asAddr, Sem.run_bind, Sem.run_pure, Result.andThen_ok, y0]) rfl (HF.out _ _ rfl HQ.out.2)
end Sc
end Go.Proofs.YthgmanncmekeeaaDoor
