/- chapter 35: a line read by the own answer: kind 2, numbers all. -/
import Derived.Test.YthgmanncmekeeaaDoorSg2
namespace Go.Proofs.YthgmanncmekeeaaDoor
set_option linter.unusedVariables false
set_option linter.unusedSimpArgs false
open Go.ChangeShapes Go.WideShapes Go.ChangeAt Go.RowKit Go.Shelf
attribute [-go_sem] binOp_string_add binOp_string_eql binOp_string_neq run_index_string
attribute [local go_sem] Sc.bs_size
attribute [local go_sem] Oper.semAt_some
namespace Sc
set_option maxRecDepth 100000 in
set_option maxHeartbeats 2000000 in
theorem evref_2_rest (l : Bs) (hl : l.length ≤ 70000) (w : World) (ws : List Bs) (h : spl 32 l = [99, 97, 108, 108] :: ws) (hs : 1 ≤ ws.length) (h1 : okL numF (ws.take 1) = true) (h2 : okL numW (ws.drop 1) = true) (hne : ws.length ≠ 8) : Calls Tryd.prog 31 #[.string (bs l)] w (EvRes l w) := by
  have hno : evOf l = none := by rw [evOf_kind 2 h (by decide) (by decide), if_neg (fun q => hne q.1)]
  obtain ⟨m, hm⟩ : ∃ m, m = ws.length := ⟨_, rfl⟩
  rw [← hm] at hs
  have HS := Lib.hid (fun v => refsplit_row l hl v [99, 97, 108, 108] ws h m hm.symm)
  have hml : m ≤ 70000 := by
    have := spl_count 32 l
    rw [h, List.length_cons, ← hm] at this
    omega
  have hxl : ∀ x ∈ ws, x.length ≤ 100000 := fun x hx => by
    have := spl_len 32 l x (by rw [h]; exact List.mem_cons_of_mem _ hx)
    omega
  obtain ⟨f0, hF⟩ : ∃ f0, valL numF (ws.take 1) = [f0] := by
    have hq : (valL numF (ws.take 1)).length = 1 := by rw [valL_len, List.length_take]; omega
    match valL numF (ws.take 1), hq with
    | [f0], _ => exact ⟨f0, rfl⟩
  have HF : Hid (∀ e w', e = .returned (.tuple #[evV (ev0 0), .bool false]) → Below w.heap.size w w' → EvRes l w e w') := Lib.hid (fun e w' h1 h2 => ⟨_, _, h1, fun _ => rfl, fun c hc => (by rw [hno] at hc; cases hc), h2⟩)
  have he1 : ∀ w, (binOp .eql 9 (.string (bs [99, 97, 108, 108])) (.string { data := #[112, 105, 99, 107] })).run Tryd.prog w = .ok (.bool false) w := fun w => (eql_bs [99, 97, 108, 108] [112, 105, 99, 107] w).trans (by rw [decide_eq_false (by decide)])
  have he2 : ∀ w, (binOp .eql 9 (.string (bs [99, 97, 108, 108])) (.string { data := #[99, 97, 108, 108] })).run Tryd.prog w = .ok (.bool true) w := fun w => (eql_bs [99, 97, 108, 108] [99, 97, 108, 108] w).trans (by rw [decide_eq_true rfl])
  have he3 : ∀ w, (binOp .eql 9 (.string (bs [99, 97, 108, 108])) (.string { data := #[108, 111, 97, 100] })).run Tryd.prog w = .ok (.bool false) w := fun w => (eql_bs [99, 97, 108, 108] [108, 111, 97, 100] w).trans (by rw [decide_eq_false (by decide)])
  have he4 : ∀ w, (binOp .eql 9 (.string (bs [99, 97, 108, 108])) (.string { data := #[115, 116, 111, 114, 101] })).run Tryd.prog w = .ok (.bool false) w := fun w => (eql_bs [99, 97, 108, 108] [115, 116, 111, 114, 101] w).trans (by rw [decide_eq_false (by decide)])
  have he5 : ∀ w, (binOp .eql 9 (.string (bs [99, 97, 108, 108])) (.string { data := #[101, 118, 105, 99, 116] })).run Tryd.prog w = .ok (.bool false) w := fun w => (eql_bs [99, 97, 108, 108] [101, 118, 105, 99, 116] w).trans (by rw [decide_eq_false (by decide)])
  have he6 : ∀ w, (binOp .eql 9 (.string (bs [99, 97, 108, 108])) (.string { data := #[112, 114, 101, 102, 101, 116, 99, 104] })).run Tryd.prog w = .ok (.bool false) w := fun w => (eql_bs [99, 97, 108, 108] [112, 114, 101, 102, 101, 116, 99, 104] w).trans (by rw [decide_eq_false (by decide)])
  have HNS : Hid (∀ v p c, StrR v p (ws.take 1) → Calls Tryd.prog 41 #[.slice p 1 c] v fun e w' => ∃ gF cF, e = .returned (.tuple #[.slice (some ⟨gF, 0, none⟩) 1 cF, .bool true]) ∧ gF < w'.heap.size ∧ (∀ k x, [f0][k]? = some x → w'.cell? ⟨gF, k, none⟩ = some (.int .i64 x)) ∧ Below v.heap.size v w') := Lib.hid (fun v p c hp => (refnumbers_any (ws.take 1) p 1 c v hp (by rw [List.length_take]; omega) (by omega) (fun x hx => hxl x (List.mem_of_mem_take hx))).mono (by
    rintro e w' ⟨u, rfl, hu, hb⟩
    rw [h1, hF] at hu
    obtain ⟨gF, cF, rfl, hg, hc⟩ := (hu rfl).open
    rw [h1]
    exact ⟨gF, cF, rfl, hg, hc, hb⟩))
  have HWS : Hid (∀ v p c, StrR v p (ws.drop 1) → Calls Tryd.prog 42 #[.slice p (m - 1) c] v fun e w' => ∃ u, e = .returned (.tuple #[u, .bool true]) ∧ Below v.heap.size v w') := Lib.hid (fun v p c hp => (refwords_any (ws.drop 1) p (m - 1) c v hp (by rw [List.length_drop]; omega) (by omega) (fun x hx => hxl x (List.mem_of_mem_drop hx))).mono (by
    rintro e w' ⟨u, rfl, hu, hb⟩
    rw [h2]
    exact ⟨u, rfl, hb⟩))
  have q : ((m : Int) < 1) = False := by rw [eq_iff_iff, iff_false]; omega
  have hmn : m + 1 < 4000000 := by omega
  have HM := Lib.hid hm.symm
  have HN := Lib.hid hs
  have qm : ((m : Int) == 8) = false := by rw [beq_eq_false_iff_ne]; omega
  clear hno h hl hm hs hml hxl hF h1 h2 hne
  generalize hR : EvRes l w = R at HF ⊢
  clear hR
  have HZ : Hid (∀ V, Below w.heap.size w V → V.heap[w.heap.size]? = some (.cells (evA (ev0 0)) 36 (0, 0)) → (V.setRow w.heap.size (evA (ev0 0))).heap[w.heap.size]? = some (.cells (evA (ev0 0)) 36 (0, 0)) ∧ Below w.heap.size w (V.setRow w.heap.size (evA (ev0 0)))) := Lib.hid (fun V h1 h2 => ⟨setRow_same _ _ _ _ _ h2, below_row h1 (Nat.le_refl _) _⟩)
  have hbz : Below w.heap.size w (w.alloc (.cells (evA (ev0 0)) 36)) := bal (Below.refl _ _) _
  have hzz : (w.alloc (.cells (evA (ev0 0)) 36)).heap[w.heap.size]? = some (.cells (evA (ev0 0)) 36 (0, 0)) := World.alloc_heap_new _ _
  have HST : Hid (∀ V, Below (w.alloc (.cells (evA (ev0 0)) 36)).heap.size (w.alloc (.cells (evA (ev0 0)) 36)) V → Below w.heap.size w V ∧ V.heap[w.heap.size]? = some (.cells (evA (ev0 0)) 36 (0, 0))) := Lib.hid (fun V h => ⟨hbz.trans (h.mono (by simp)), (h.block _ (by simp)).trans hzz⟩)
  clear hbz hzz
  go_enter Tryd.func31, Tryd.ntmps31
  go_wp2_with (first
    | (go_at_call 30; (with_reducible refine (HS.out _).mono ?_); rintro e w2 ⟨g, cap, rfl, hcap, hR, hgc, hb2⟩; obtain ⟨p1, c1, p2, c2, hs1, hs2, hR1, hR2⟩ := cut2 2 hR HM.out hcap HN.out rfl; have HV2 := Lib.hid (HST.out _ hb2); have HR1 := Lib.hid hR1; have HR2 := Lib.hid hR2; have hgl : g < w2.heap.size := (World.block_lt_of_cell? _ _ hgc); clear hb2 hcap hR hR1 hR2)
    | (go_at_call 41; (with_reducible refine (HNS.out _ _ _ HR1.out).mono ?_); rintro e w3 ⟨gF, cF, rfl, hgF, hFc, hb3⟩; have HR3 := Lib.hid (HR2.out.call hb3); have HB3 := Lib.hid hb3; have HFC := Lib.hid hFc; clear hFc hb3)
    | (go_at_call 42; (with_reducible refine (HWS.out _ _ _ HR3.out).mono ?_); rintro e w4 ⟨uw, rfl, hb4⟩; obtain ⟨hgc4, hgl4, hgF4, hF4, hV4, hVo⟩ := pack4 HV2.out HB3.out hb4 hgc hgF HFC.out; have hf0 : w4.cell? ⟨gF, 0, none⟩ = some (.int .i64 f0) := hF4 0 f0 rfl; have HF4 := Lib.hid hF4; have HV4 := Lib.hid hV4; have HV := Lib.hid hVo; clear hF4 hV4 hVo; clear hb4)
    | (refine wpList_store_row rfl 36 _ _ rfl w.heap.size _ rfl rfl _ _ (HV.out _).2 (by kernel_rfl) rfl (ev_one (ev0 0)) ?_; generalize hVV : World.setRow _ _ _ = V; have HQ : Hid (V.heap[w.heap.size]? = some (.cells (evA (ev0 0)) 36 (0, 0)) ∧ Below w.heap.size w V) := Lib.hid (by rw [← hVV]; exact HZ.out _ (HV.out _).1 (HV.out _).2); clear hVV))
  have y0 := load_ev_row HQ.out.1
  exact bodyPost_ret (v := .tuple #[evV (ev0 0), .bool false]) (by simp [results, Tryd.results31, asAddr, Sem.run_bind, Sem.run_pure, Result.andThen_ok, y0]) rfl (HF.out _ _ rfl HQ.out.2)
set_option maxRecDepth 100000 in
set_option maxHeartbeats 2000000 in
theorem evref_2_good (l : Bs) (hl : l.length ≤ 70000) (w : World) (ws : List Bs) (h : spl 32 l = [99, 97, 108, 108] :: ws) (hs : 1 ≤ ws.length) (h1 : okL numF (ws.take 1) = true) (h2 : okL numW (ws.drop 1) = true) (hne : ws.length = 8) : Calls Tryd.prog 31 #[.string (bs l)] w (EvRes l w) := by
  obtain ⟨m, hm⟩ : ∃ m, m = ws.length := ⟨_, rfl⟩
  obtain rfl : m = 8 := by omega
  have HS := Lib.hid (fun v => refsplit_row l hl v [99, 97, 108, 108] ws h 8 hm.symm)
  have hxl : ∀ x ∈ ws, x.length ≤ 100000 := fun x hx => by
    have := spl_len 32 l x (by rw [h]; exact List.mem_cons_of_mem _ hx)
    omega
  obtain ⟨f0, hF⟩ : ∃ f0, valL numF (ws.take 1) = [f0] := by
    have hq : (valL numF (ws.take 1)).length = 1 := by rw [valL_len, List.length_take]; omega
    match valL numF (ws.take 1), hq with
    | [f0], _ => exact ⟨f0, rfl⟩
  obtain ⟨x0, x1, x2, x3, x4, x5, x6, hG⟩ : ∃ x0 x1 x2 x3 x4 x5 x6, valL numW (ws.drop 1) = [x0, x1, x2, x3, x4, x5, x6] := by
    have hq : (valL numW (ws.drop 1)).length = 7 := by rw [valL_len, List.length_drop]; omega
    match valL numW (ws.drop 1), hq with
    | [x0, x1, x2, x3, x4, x5, x6], _ => exact ⟨x0, x1, x2, x3, x4, x5, x6, rfl⟩
  have hyes : evOf l = some (put [1, 3, 4, 5, 6, 7, 8, 9] [f0, x0, x1, x2, x3, x4, x5, x6] (ev0 2)) := by
    rw [evOf_kind 2 h (by decide) (by decide), if_pos ⟨hm.symm, h1, h2⟩]
    have hF' : valL numF (ws.take (flds 2).length) = [f0] := hF
    have hG' : valL numW (ws.drop (flds 2).length) = [x0, x1, x2, x3, x4, x5, x6] := hG
    rw [hF', hG']; rfl
  have HCE : Hid (evA (put [1, 3, 4, 5, 6, 7, 8, 9] [f0, x0, x1, x2, x3, x4, x5, x6] (ev0 2)) = #[.int .i64 2, .int .i64 f0, .int .i64 0, .int .u64 x0, .int .u64 x1, .int .u64 x2, .int .u64 x3, .int .u64 x4, .int .u64 x5, .int .u64 x6, .int .u64 0, .int .u64 0, .int .i64 0, .int .i64 0, .int .i64 0]) := Lib.hid (by simp [evA, put, upd, ev0])
  obtain ⟨ce, hce⟩ : ∃ c, c = put [1, 3, 4, 5, 6, 7, 8, 9] [f0, x0, x1, x2, x3, x4, x5, x6] (ev0 2) := ⟨_, rfl⟩
  rw [← hce] at hyes HCE
  have HF : Hid (∀ e w', e = .returned (.tuple #[evV ce, .bool true]) → Below w.heap.size w w' → EvRes l w e w') := Lib.hid (fun e w' h1 h2 => ⟨_, _, h1, fun q => (by rw [hyes] at q; cases q), fun c hc => (by rw [hyes] at hc; cases hc; exact ⟨rfl, rfl⟩), h2⟩)
  have he1 : ∀ w, (binOp .eql 9 (.string (bs [99, 97, 108, 108])) (.string { data := #[112, 105, 99, 107] })).run Tryd.prog w = .ok (.bool false) w := fun w => (eql_bs [99, 97, 108, 108] [112, 105, 99, 107] w).trans (by rw [decide_eq_false (by decide)])
  have he2 : ∀ w, (binOp .eql 9 (.string (bs [99, 97, 108, 108])) (.string { data := #[99, 97, 108, 108] })).run Tryd.prog w = .ok (.bool true) w := fun w => (eql_bs [99, 97, 108, 108] [99, 97, 108, 108] w).trans (by rw [decide_eq_true rfl])
  have he3 : ∀ w, (binOp .eql 9 (.string (bs [99, 97, 108, 108])) (.string { data := #[108, 111, 97, 100] })).run Tryd.prog w = .ok (.bool false) w := fun w => (eql_bs [99, 97, 108, 108] [108, 111, 97, 100] w).trans (by rw [decide_eq_false (by decide)])
  have he4 : ∀ w, (binOp .eql 9 (.string (bs [99, 97, 108, 108])) (.string { data := #[115, 116, 111, 114, 101] })).run Tryd.prog w = .ok (.bool false) w := fun w => (eql_bs [99, 97, 108, 108] [115, 116, 111, 114, 101] w).trans (by rw [decide_eq_false (by decide)])
  have he5 : ∀ w, (binOp .eql 9 (.string (bs [99, 97, 108, 108])) (.string { data := #[101, 118, 105, 99, 116] })).run Tryd.prog w = .ok (.bool false) w := fun w => (eql_bs [99, 97, 108, 108] [101, 118, 105, 99, 116] w).trans (by rw [decide_eq_false (by decide)])
  have he6 : ∀ w, (binOp .eql 9 (.string (bs [99, 97, 108, 108])) (.string { data := #[112, 114, 101, 102, 101, 116, 99, 104] })).run Tryd.prog w = .ok (.bool false) w := fun w => (eql_bs [99, 97, 108, 108] [112, 114, 101, 102, 101, 116, 99, 104] w).trans (by rw [decide_eq_false (by decide)])
  have HNS : Hid (∀ v p c, StrR v p (ws.take 1) → Calls Tryd.prog 41 #[.slice p 1 c] v fun e w' => ∃ gF cF, e = .returned (.tuple #[.slice (some ⟨gF, 0, none⟩) 1 cF, .bool true]) ∧ gF < w'.heap.size ∧ (∀ k x, [f0][k]? = some x → w'.cell? ⟨gF, k, none⟩ = some (.int .i64 x)) ∧ Below v.heap.size v w') := Lib.hid (fun v p c hp => (refnumbers_any (ws.take 1) p 1 c v hp (by rw [List.length_take]; omega) (by omega) (fun x hx => hxl x (List.mem_of_mem_take hx))).mono (by
    rintro e w' ⟨u, rfl, hu, hb⟩
    rw [h1, hF] at hu
    obtain ⟨gF, cF, rfl, hg, hc⟩ := (hu rfl).open
    rw [h1]
    exact ⟨gF, cF, rfl, hg, hc, hb⟩))
  have HWS : Hid (∀ v p c, StrR v p (ws.drop 1) → Calls Tryd.prog 42 #[.slice p (8 - 1) c] v fun e w' => ∃ gW cW, e = .returned (.tuple #[.slice (some ⟨gW, 0, none⟩) 7 cW, .bool true]) ∧ gW < w'.heap.size ∧ (∀ k x, [x0, x1, x2, x3, x4, x5, x6][k]? = some x → w'.cell? ⟨gW, k, none⟩ = some (.int .u64 x)) ∧ Below v.heap.size v w') := Lib.hid (fun v p c hp => (refwords_any (ws.drop 1) p (8 - 1) c v hp (by rw [List.length_drop]; omega) (by omega) (fun x hx => hxl x (List.mem_of_mem_drop hx))).mono (by
    rintro e w' ⟨u, rfl, hu, hb⟩
    rw [h2, hG] at hu
    obtain ⟨gW, cW, rfl, hg, hc⟩ := (hu rfl).open
    rw [h2]
    exact ⟨gW, cW, rfl, hg, hc, hb⟩))
  have HM := Lib.hid hm.symm
  have HN : Hid (1 ≤ 8) := Lib.hid (by decide)
  clear hyes h hl hm hs hxl hF hG h1 h2 hne hce
  generalize hR : EvRes l w = R at HF ⊢
  clear hR
  have HZ : Hid (∀ V, Below w.heap.size w V → V.heap[w.heap.size]? = some (.cells (evA (ev0 0)) 36 (0, 0)) → (V.setRow w.heap.size (evA (ev0 0))).heap[w.heap.size]? = some (.cells (evA (ev0 0)) 36 (0, 0)) ∧ Below w.heap.size w (V.setRow w.heap.size (evA (ev0 0)))) := Lib.hid (fun V h1 h2 => ⟨setRow_same _ _ _ _ _ h2, below_row h1 (Nat.le_refl _) _⟩)
  have hbz : Below w.heap.size w (w.alloc (.cells (evA (ev0 0)) 36)) := bal (Below.refl _ _) _
  have hzz : (w.alloc (.cells (evA (ev0 0)) 36)).heap[w.heap.size]? = some (.cells (evA (ev0 0)) 36 (0, 0)) := World.alloc_heap_new _ _
  have HST : Hid (∀ V, Below (w.alloc (.cells (evA (ev0 0)) 36)).heap.size (w.alloc (.cells (evA (ev0 0)) 36)) V → Below w.heap.size w V ∧ V.heap[w.heap.size]? = some (.cells (evA (ev0 0)) 36 (0, 0))) := Lib.hid (fun V h => ⟨hbz.trans (h.mono (by simp)), (h.block _ (by simp)).trans hzz⟩)
  clear hbz hzz
  go_enter Tryd.func31, Tryd.ntmps31
  go_upto_region 27 with (first
    | (go_at_call 30; (with_reducible refine (HS.out _).mono ?_); rintro e w2 ⟨g, cap, rfl, hcap, hR, hgc, hb2⟩; obtain ⟨p1, c1, p2, c2, hs1, hs2, hR1, hR2⟩ := cut2 2 hR HM.out hcap HN.out rfl; have HV2 := Lib.hid (HST.out _ hb2); have HR1 := Lib.hid hR1; have HR2 := Lib.hid hR2; have hgl : g < w2.heap.size := (World.block_lt_of_cell? _ _ hgc); clear hb2 hcap hR hR1 hR2)
    | (go_at_call 41; (with_reducible refine (HNS.out _ _ _ HR1.out).mono ?_); rintro e w3 ⟨gF, cF, rfl, hgF, hFc, hb3⟩; have HR3 := Lib.hid (HR2.out.call hb3); have HB3 := Lib.hid hb3; have HFC := Lib.hid hFc; clear hFc hb3)
    | (go_at_call 42; (with_reducible refine (HWS.out _ _ _ HR3.out).mono ?_); rintro e w4 ⟨gW, cW, rfl, hgW, hWc, hb4⟩; obtain ⟨hgc4, hgl4, hgF4, hF4, hV4, hVo⟩ := pack4 HV2.out HB3.out hb4 hgc hgF HFC.out; have hf0 : w4.cell? ⟨gF, 0, none⟩ = some (.int .i64 f0) := hF4 0 f0 rfl; have HF4 := Lib.hid hF4; have HV4 := Lib.hid hV4; have HV := Lib.hid hVo; clear hF4 hV4 hVo; have HW4 := Lib.hid hWc; clear hb4 hWc))
  obtain ⟨w5, hw5⟩ : ∃ y, y = w4.alloc (.cells #[.int .i64 0, .int .i64 f0, .int .i64 0, .int .u64 0, .int .u64 0, .int .u64 0, .int .u64 0, .int .u64 0, .int .u64 0, .int .u64 0, .int .u64 0, .int .u64 0, .int .i64 0, .int .i64 0, .int .i64 0] 36) := ⟨_, rfl⟩
  rw [← hw5]
  have hb5 : Below w4.heap.size w4 w5 := hw5 ▸ bal (Below.refl _ _) _
  have hbox : w5.heap[w4.heap.size]? = some (.cells (evA (upd (ev0 0) 1 f0)) 36 (0, 0)) := by rw [hw5]; exact World.alloc_heap_new _ _
  have hV5 : Below w.heap.size w w5 ∧ w5.heap[w.heap.size]? = some (.cells (evA (ev0 0)) 36 (0, 0)) := by rw [hw5]; exact HV.out _
  have HSW : Hid (∀ (k : Nat) (x : Int), [x0, x1, x2, x3, x4, x5, x6][k]? = some x → w5.cell? ⟨gW, k, none⟩ = some (.int .u64 x)) := Lib.hid (fun k x h => (World.cell?_of_block (hb5.block gW hgW)).trans (HW4.out k x h))
  have hNE : w.heap.size ≠ w4.heap.size := fun e => by have := (Array.getElem?_eq_some_iff.1 HV4.out.2).1; omega
  have hNG : gW ≠ w4.heap.size := fun e => by omega
  have hLE : w.heap.size ≤ w4.heap.size := HV4.out.1.size
  obtain ⟨B, hB⟩ : ∃ B, B = w4.heap.size := ⟨_, rfl⟩
  rw [← hB] at hbox hNE hNG hLE ⊢
  have HNE := Lib.hid hNE
  have HNG := Lib.hid hNG
  have HLE := Lib.hid hLE
  have HBOX := Lib.hid hbox
  have HV5 := Lib.hid hV5
  have z0 : w5.cell? ⟨B, 0, none⟩ = some (.int .i64 0) := by rw [row_cell hbox]; rfl
  have z3 : w5.cell? ⟨B, 3, none⟩ = some (.int .u64 0) := by rw [row_cell hbox]; rfl
  have t0 : w5.cell? ⟨gW, 0, none⟩ = some (.int .u64 x0) := HSW.out 0 x0 rfl
  have fr : ∀ j, w5.frozen? ⟨B, j, none⟩ = false := fun j => by simp [World.frozen?, hbox]
  have hg5 : gW < w5.heap.size := World.block_lt_of_cell? _ _ t0
  clear hw5 hb5 hbox hV5 hNE hLE hB
  go_upto_region 29 with fail
  obtain ⟨w6, hw6⟩ : ∃ y, y = (w5.setCell ⟨B, 0, none⟩ (.int .i64 2)).setCell ⟨B, 3, none⟩ (.int .u64 x0) := ⟨_, rfl⟩
  rw [← hw6]
  obtain ⟨G, hG⟩ : ∃ G, G = [x0, x1, x2, x3, x4, x5, x6] := ⟨_, rfl⟩
  obtain ⟨e0, he0⟩ : ∃ e, e = upd (upd (upd (ev0 0) 1 f0) 0 2) 3 x0 := ⟨_, rfl⟩
  have HFULL : Hid (evA (ccF e0 G 6) = evA ce) := Lib.hid (by rw [HCE.out, he0, hG]; simp [ccF, evA, upd, ev0])
  have hbx : w6.heap[B]? = some (.cells (evA e0) 36 (0, 0)) := by
    rw [hw6, he0]
    exact box_set (i := 3) (K := .u64) (box_set (i := 0) (K := .i64) HBOX.out (by decide) rfl) (by decide) rfl
  have hzz : w6.heap[w.heap.size]? = some (.cells (evA (ev0 0)) 36 (0, 0)) := by
    rw [hw6]
    exact (Go.heap_setCell_other _ _ _ _ HNE.out).trans ((Go.heap_setCell_other _ _ _ _ HNE.out).trans HV5.out.2)
  have hbb : Below w.heap.size w w6 := by
    rw [hw6]
    exact (HV5.out.1.setCell (p := ⟨B, 0, none⟩) HLE.out _).setCell (p := ⟨B, 3, none⟩) HLE.out _
  have hsw : ∀ (k : Nat) (x : Int), G[k]? = some x → w6.cell? ⟨gW, k, none⟩ = some (.int .u64 x) := fun k x h => by
    rw [hw6]
    refine (World.cell?_of_block ?_).trans (HSW.out k x (by rw [← hG]; exact h))
    exact (Go.heap_setCell_other _ _ _ _ HNG.out).trans (Go.heap_setCell_other _ _ _ _ HNG.out)
  have HGL : Hid (G.length = 7) := Lib.hid (by rw [hG]; rfl)
  have HBX := Lib.hid hbx
  have HZZ := Lib.hid hzz
  have HBB := Lib.hid hbb
  have HSW6 := Lib.hid hsw
  clear hw6 hbx hzz hbb hsw hG he0 HSW HBOX HV5 HCE fr z0 z3 t0
  go_wp2
  go_loopw [12] (fun i wr => ∃ k : Nat, k ≤ 6 ∧ i = .int .i64 k ∧ Hid (wr.heap[B]? = some (.cells (evA (ccF e0 G k)) 36 (0, 0))) ∧ Hid (wr.heap[w.heap.size]? = some (.cells (evA (ev0 0)) 36 (0, 0))) ∧ Hid (∀ (k : Nat) (x : Int), G[k]? = some x → wr.cell? ⟨gW, k, none⟩ = some (.int .u64 x)) ∧ Hid (Below w.heap.size w wr)) (fun i _ => 6 - (intOf i).toNat)
  case atStart => exact ⟨0, by omega, rfl, HBX, HZZ, HSW6, HBB⟩
  case round =>
    obtain ⟨k, hk, rfl, HX, HZ2, HS2, HB2⟩ := hrel
    by_cases hlt : k < 6
    · have hltI : (k : Int) < 6 := by omega
      obtain ⟨x, hx⟩ : ∃ x, G[k + 1]? = some x := ⟨_, List.getElem?_eq_getElem (by have := HGL.out; omega)⟩
      have csrc : wr.cell? ⟨gW, k + 1, none⟩ = some (.int .u64 x) := HS2.out _ _ hx
      have hc1 : ccF e0 G (k + 1) = upd (ccF e0 G k) (4 + k) x := by rw [ccF]; simp [List.getD, hx]
      obtain ⟨y, hy⟩ : ∃ y, wr.cell? ⟨B, 4 + k, none⟩ = some (.int .u64 y) := by
        rw [row_cell HX.out]
        obtain rfl | rfl | rfl | rfl | rfl | rfl : k = 0 ∨ k = 1 ∨ k = 2 ∨ k = 3 ∨ k = 4 ∨ k = 5 := by omega
        all_goals exact ⟨_, rfl⟩
      have hy2 : wr.cell? ⟨B, 3 + 1 + k, none⟩ = some (.int .u64 y) := hy
      have fy : ∀ j, wr.frozen? ⟨B, j, none⟩ = false := fun j => by simp [World.frozen?, HX.out]
      have HX2 : Hid ((wr.setCell ⟨B, 4 + k, none⟩ (.int .u64 x)).heap[B]? = some (.cells (evA (ccF e0 G (k + 1))) 36 (0, 0))) := Lib.hid (by
        rw [hc1]
        exact box_set (i := 4 + k) (K := .u64) HX.out (by omega) (by rw [if_neg (by omega), if_pos (by omega)]))
      have HZ3 : Hid ((wr.setCell ⟨B, 4 + k, none⟩ (.int .u64 x)).heap[w.heap.size]? = some (.cells (evA (ev0 0)) 36 (0, 0))) := Lib.hid ((Go.heap_setCell_other _ _ _ _ HNE.out).trans HZ2.out)
      have HS3 : Hid (∀ (j : Nat) (x' : Int), G[j]? = some x' → (wr.setCell ⟨B, 4 + k, none⟩ (.int .u64 x)).cell? ⟨gW, j, none⟩ = some (.int .u64 x')) := Lib.hid (fun j x' h => (World.cell?_of_block (Go.heap_setCell_other _ _ _ _ HNG.out)).trans (HS2.out j x' h))
      have HB3' : Hid (Below w.heap.size w (wr.setCell ⟨B, 4 + k, none⟩ (.int .u64 x))) := Lib.hid (HB2.out.setCell (p := ⟨B, 4 + k, none⟩) HLE.out _)
      have hkw : k + 1 < 4000000 := by omega
      clear hx hc1
      go_wp2
      go_roundw
      case rel => exact ⟨k + 1, by omega, by go_num, HX2, HZ3, HS3, HB3'⟩
      case measure => first | (simp [intOf]; done) | (simp [intOf]; omega)
    · obtain rfl : k = 6 := by omega
      have hbx : wr.heap[B]? = some (.cells (evA ce) 36 (0, 0)) := by rw [← HFULL.out]; exact HX.out
      have HBX : Hid (wr.rangeAt B 0 (evA ce).toList) := Lib.hid (fun j u hj => by rw [row_cell hbx]; simpa using hj)
      clear hbx
      go_wp2_with (first
        | (refine wpList_load_mid rfl 36 _ rfl B 0 rfl (evA ce).toList _ HBX.out Tryd.underlying36 rfl (by kernel_rfl) ?_; rw [Array.toArray_toList])
        | (refine wpList_store_row rfl 36 _ _ rfl w.heap.size _ rfl rfl _ _ HZ2.out (by kernel_rfl) rfl (ev_one ce) ?_; generalize hVV : World.setRow _ _ _ = V; have HQ : Hid (V.heap[w.heap.size]? = some (.cells (evA ce) 36 (0, 0)) ∧ Below w.heap.size w V) := Lib.hid (by rw [← hVV]; exact ⟨setRow_same _ _ _ _ _ HZ2.out, below_row HB2.out (Nat.le_refl _) _⟩); clear hVV))
      have y0 := load_ev_row HQ.out.1
      exact bodyPost_ret (v := .tuple #[evV ce, .bool true]) (by simp [results, Tryd.results31, asAddr, Sem.run_bind, Sem.run_pure, Result.andThen_ok, y0]) rfl (HF.out _ _ rfl HQ.out.2)
end Sc
end Go.Proofs.YthgmanncmekeeaaDoor
