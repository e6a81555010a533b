/- chapter 35: a line read by the own answer: kind 3, numbers all. -/
import Derived.Test.YthgmanncmekeeaaDoorSg3
namespace Go.Proofs.YthgmanncmekeeaaDoor
set_option linter.unusedVariables false
set_option linter.unusedSimpArgs false
open Go.ChangeShapes Go.WideShapes Go.ChangeAt Go.RowKit Go.Shelf
attribute [-go_sem] binOp_string_add binOp_string_eql binOp_string_neq run_index_string
attribute [local go_sem] Sc.bs_size
attribute [local go_sem] Oper.semAt_some
namespace Sc
set_option maxRecDepth 100000 in
set_option maxHeartbeats 2000000 in
theorem evref_3_rest (l : Bs) (hl : l.length ≤ 70000) (w : World) (ws : List Bs) (h : spl 32 l = [108, 111, 97, 100] :: ws) (hs : 1 ≤ ws.length) (h1 : okL numF (ws.take 1) = true) (h2 : okL numW (ws.drop 1) = true) (hne : ws.length ≠ 2) : Calls Tryd.prog 31 #[.string (bs l)] w (EvRes l w) := by
  have hno : evOf l = none := by rw [evOf_kind 3 h (by decide) (by decide), if_neg (fun q => hne q.1)]
  obtain ⟨m, hm⟩ : ∃ m, m = ws.length := ⟨_, rfl⟩
  rw [← hm] at hs
  have HS := Lib.hid (fun v => refsplit_row l hl v [108, 111, 97, 100] ws h m hm.symm)
  have hml : m ≤ 70000 := by
    have := spl_count 32 l
    rw [h, List.length_cons, ← hm] at this
    omega
  have hxl : ∀ x ∈ ws, x.length ≤ 100000 := fun x hx => by
    have := spl_len 32 l x (by rw [h]; exact List.mem_cons_of_mem _ hx)
    omega
  obtain ⟨f0, hF⟩ : ∃ f0, valL numF (ws.take 1) = [f0] := by
    have hq : (valL numF (ws.take 1)).length = 1 := by rw [valL_len, List.length_take]; omega
    match valL numF (ws.take 1), hq with
    | [f0], _ => exact ⟨f0, rfl⟩
  have HF : Hid (∀ e w', e = .returned (.tuple #[evV (ev0 0), .bool false]) → Below w.heap.size w w' → EvRes l w e w') := Lib.hid (fun e w' h1 h2 => ⟨_, _, h1, fun _ => rfl, fun c hc => (by rw [hno] at hc; cases hc), h2⟩)
  have he1 : ∀ w, (binOp .eql 9 (.string (bs [108, 111, 97, 100])) (.string { data := #[112, 105, 99, 107] })).run Tryd.prog w = .ok (.bool false) w := fun w => (eql_bs [108, 111, 97, 100] [112, 105, 99, 107] w).trans (by rw [decide_eq_false (by decide)])
  have he2 : ∀ w, (binOp .eql 9 (.string (bs [108, 111, 97, 100])) (.string { data := #[99, 97, 108, 108] })).run Tryd.prog w = .ok (.bool false) w := fun w => (eql_bs [108, 111, 97, 100] [99, 97, 108, 108] w).trans (by rw [decide_eq_false (by decide)])
  have he3 : ∀ w, (binOp .eql 9 (.string (bs [108, 111, 97, 100])) (.string { data := #[108, 111, 97, 100] })).run Tryd.prog w = .ok (.bool true) w := fun w => (eql_bs [108, 111, 97, 100] [108, 111, 97, 100] w).trans (by rw [decide_eq_true rfl])
  have he4 : ∀ w, (binOp .eql 9 (.string (bs [108, 111, 97, 100])) (.string { data := #[115, 116, 111, 114, 101] })).run Tryd.prog w = .ok (.bool false) w := fun w => (eql_bs [108, 111, 97, 100] [115, 116, 111, 114, 101] w).trans (by rw [decide_eq_false (by decide)])
  have he5 : ∀ w, (binOp .eql 9 (.string (bs [108, 111, 97, 100])) (.string { data := #[101, 118, 105, 99, 116] })).run Tryd.prog w = .ok (.bool false) w := fun w => (eql_bs [108, 111, 97, 100] [101, 118, 105, 99, 116] w).trans (by rw [decide_eq_false (by decide)])
  have he6 : ∀ w, (binOp .eql 9 (.string (bs [108, 111, 97, 100])) (.string { data := #[112, 114, 101, 102, 101, 116, 99, 104] })).run Tryd.prog w = .ok (.bool false) w := fun w => (eql_bs [108, 111, 97, 100] [112, 114, 101, 102, 101, 116, 99, 104] w).trans (by rw [decide_eq_false (by decide)])
  have HNS : Hid (∀ v p c, StrR v p (ws.take 1) → Calls Tryd.prog 41 #[.slice p 1 c] v fun e w' => ∃ gF cF, e = .returned (.tuple #[.slice (some ⟨gF, 0, none⟩) 1 cF, .bool true]) ∧ gF < w'.heap.size ∧ (∀ k x, [f0][k]? = some x → w'.cell? ⟨gF, k, none⟩ = some (.int .i64 x)) ∧ Below v.heap.size v w') := Lib.hid (fun v p c hp => (refnumbers_any (ws.take 1) p 1 c v hp (by rw [List.length_take]; omega) (by omega) (fun x hx => hxl x (List.mem_of_mem_take hx))).mono (by
    rintro e w' ⟨u, rfl, hu, hb⟩
    rw [h1, hF] at hu
    obtain ⟨gF, cF, rfl, hg, hc⟩ := (hu rfl).open
    rw [h1]
    exact ⟨gF, cF, rfl, hg, hc, hb⟩))
  have HWS : Hid (∀ v p c, StrR v p (ws.drop 1) → Calls Tryd.prog 42 #[.slice p (m - 1) c] v fun e w' => ∃ u, e = .returned (.tuple #[u, .bool true]) ∧ Below v.heap.size v w') := Lib.hid (fun v p c hp => (refwords_any (ws.drop 1) p (m - 1) c v hp (by rw [List.length_drop]; omega) (by omega) (fun x hx => hxl x (List.mem_of_mem_drop hx))).mono (by
    rintro e w' ⟨u, rfl, hu, hb⟩
    rw [h2]
    exact ⟨u, rfl, hb⟩))
  have q : ((m : Int) < 1) = False := by rw [eq_iff_iff, iff_false]; omega
  have hmn : m + 1 < 4000000 := by omega
  have HM := Lib.hid hm.symm
  have HN := Lib.hid hs
  have qm : ((m : Int) == 2) = false := by rw [beq_eq_false_iff_ne]; omega
  clear hno h hl hm hs hml hxl hF h1 h2 hne
  generalize hR : EvRes l w = R at HF ⊢
  clear hR
  have HZ : Hid (∀ V, Below w.heap.size w V → V.heap[w.heap.size]? = some (.cells (evA (ev0 0)) 36 (0, 0)) → (V.setRow w.heap.size (evA (ev0 0))).heap[w.heap.size]? = some (.cells (evA (ev0 0)) 36 (0, 0)) ∧ Below w.heap.size w (V.setRow w.heap.size (evA (ev0 0)))) := Lib.hid (fun V h1 h2 => ⟨setRow_same _ _ _ _ _ h2, below_row h1 (Nat.le_refl _) _⟩)
  have hbz : Below w.heap.size w (w.alloc (.cells (evA (ev0 0)) 36)) := bal (Below.refl _ _) _
  have hzz : (w.alloc (.cells (evA (ev0 0)) 36)).heap[w.heap.size]? = some (.cells (evA (ev0 0)) 36 (0, 0)) := World.alloc_heap_new _ _
  have HST : Hid (∀ V, Below (w.alloc (.cells (evA (ev0 0)) 36)).heap.size (w.alloc (.cells (evA (ev0 0)) 36)) V → Below w.heap.size w V ∧ V.heap[w.heap.size]? = some (.cells (evA (ev0 0)) 36 (0, 0))) := Lib.hid (fun V h => ⟨hbz.trans (h.mono (by simp)), (h.block _ (by simp)).trans hzz⟩)
  clear hbz hzz
  go_enter Tryd.func31, Tryd.ntmps31
  go_wp2_with (first
    | (go_at_call 30; (with_reducible refine (HS.out _).mono ?_); rintro e w2 ⟨g, cap, rfl, hcap, hR, hgc, hb2⟩; obtain ⟨p1, c1, p2, c2, hs1, hs2, hR1, hR2⟩ := cut2 2 hR HM.out hcap HN.out rfl; have HV2 := Lib.hid (HST.out _ hb2); have HR1 := Lib.hid hR1; have HR2 := Lib.hid hR2; have hgl : g < w2.heap.size := (World.block_lt_of_cell? _ _ hgc); clear hb2 hcap hR hR1 hR2)
    | (go_at_call 41; (with_reducible refine (HNS.out _ _ _ HR1.out).mono ?_); rintro e w3 ⟨gF, cF, rfl, hgF, hFc, hb3⟩; have HR3 := Lib.hid (HR2.out.call hb3); have HB3 := Lib.hid hb3; have HFC := Lib.hid hFc; clear hFc hb3)
    | (go_at_call 42; (with_reducible refine (HWS.out _ _ _ HR3.out).mono ?_); rintro e w4 ⟨uw, rfl, hb4⟩; obtain ⟨hgc4, hgl4, hgF4, hF4, hV4, hVo⟩ := pack4 HV2.out HB3.out hb4 hgc hgF HFC.out; have hf0 : w4.cell? ⟨gF, 0, none⟩ = some (.int .i64 f0) := hF4 0 f0 rfl; have HF4 := Lib.hid hF4; have HV4 := Lib.hid hV4; have HV := Lib.hid hVo; clear hF4 hV4 hVo; clear hb4)
    | (refine wpList_store_row rfl 36 _ _ rfl w.heap.size _ rfl rfl _ _ (HV.out _).2 (by kernel_rfl) rfl (ev_one (ev0 0)) ?_; generalize hVV : World.setRow _ _ _ = V; have HQ : Hid (V.heap[w.heap.size]? = some (.cells (evA (ev0 0)) 36 (0, 0)) ∧ Below w.heap.size w V) := Lib.hid (by rw [← hVV]; exact HZ.out _ (HV.out _).1 (HV.out _).2); clear hVV))
  have y0 := load_ev_row HQ.out.1
  exact bodyPost_ret (v := .tuple #[evV (ev0 0), .bool false]) (by simp [results, Tryd.results31, asAddr, Sem.run_bind, Sem.run_pure, Result.andThen_ok, y0]) rfl (HF.out _ _ rfl HQ.out.2)
set_option maxRecDepth 100000 in
set_option maxHeartbeats 2000000 in
theorem evref_3_good (l : Bs) (hl : l.length ≤ 70000) (w : World) (ws : List Bs) (h : spl 32 l = [108, 111, 97, 100] :: ws) (hs : 1 ≤ ws.length) (h1 : okL numF (ws.take 1) = true) (h2 : okL numW (ws.drop 1) = true) (hne : ws.length = 2) : Calls Tryd.prog 31 #[.string (bs l)] w (EvRes l w) := by
  obtain ⟨m, hm⟩ : ∃ m, m = ws.length := ⟨_, rfl⟩
  obtain rfl : m = 2 := by omega
  have HS := Lib.hid (fun v => refsplit_row l hl v [108, 111, 97, 100] ws h 2 hm.symm)
  have hxl : ∀ x ∈ ws, x.length ≤ 100000 := fun x hx => by
    have := spl_len 32 l x (by rw [h]; exact List.mem_cons_of_mem _ hx)
    omega
  obtain ⟨f0, hF⟩ : ∃ f0, valL numF (ws.take 1) = [f0] := by
    have hq : (valL numF (ws.take 1)).length = 1 := by rw [valL_len, List.length_take]; omega
    match valL numF (ws.take 1), hq with
    | [f0], _ => exact ⟨f0, rfl⟩
  obtain ⟨x0, hG⟩ : ∃ x0, valL numW (ws.drop 1) = [x0] := by
    have hq : (valL numW (ws.drop 1)).length = 1 := by rw [valL_len, List.length_drop]; omega
    match valL numW (ws.drop 1), hq with
    | [x0], _ => exact ⟨x0, rfl⟩
  have hyes : evOf l = some (put [1, 10] [f0, x0] (ev0 3)) := by
    rw [evOf_kind 3 h (by decide) (by decide), if_pos ⟨hm.symm, h1, h2⟩]
    have hF' : valL numF (ws.take (flds 3).length) = [f0] := hF
    have hG' : valL numW (ws.drop (flds 3).length) = [x0] := hG
    rw [hF', hG']; rfl
  have HCE : Hid (evA (put [1, 10] [f0, x0] (ev0 3)) = #[.int .i64 3, .int .i64 f0, .int .i64 0, .int .u64 0, .int .u64 0, .int .u64 0, .int .u64 0, .int .u64 0, .int .u64 0, .int .u64 0, .int .u64 x0, .int .u64 0, .int .i64 0, .int .i64 0, .int .i64 0]) := Lib.hid (by simp [evA, put, upd, ev0])
  obtain ⟨ce, hce⟩ : ∃ c, c = put [1, 10] [f0, x0] (ev0 3) := ⟨_, rfl⟩
  rw [← hce] at hyes HCE
  have HF : Hid (∀ e w', e = .returned (.tuple #[evV ce, .bool true]) → Below w.heap.size w w' → EvRes l w e w') := Lib.hid (fun e w' h1 h2 => ⟨_, _, h1, fun q => (by rw [hyes] at q; cases q), fun c hc => (by rw [hyes] at hc; cases hc; exact ⟨rfl, rfl⟩), h2⟩)
  have he1 : ∀ w, (binOp .eql 9 (.string (bs [108, 111, 97, 100])) (.string { data := #[112, 105, 99, 107] })).run Tryd.prog w = .ok (.bool false) w := fun w => (eql_bs [108, 111, 97, 100] [112, 105, 99, 107] w).trans (by rw [decide_eq_false (by decide)])
  have he2 : ∀ w, (binOp .eql 9 (.string (bs [108, 111, 97, 100])) (.string { data := #[99, 97, 108, 108] })).run Tryd.prog w = .ok (.bool false) w := fun w => (eql_bs [108, 111, 97, 100] [99, 97, 108, 108] w).trans (by rw [decide_eq_false (by decide)])
  have he3 : ∀ w, (binOp .eql 9 (.string (bs [108, 111, 97, 100])) (.string { data := #[108, 111, 97, 100] })).run Tryd.prog w = .ok (.bool true) w := fun w => (eql_bs [108, 111, 97, 100] [108, 111, 97, 100] w).trans (by rw [decide_eq_true rfl])
  have he4 : ∀ w, (binOp .eql 9 (.string (bs [108, 111, 97, 100])) (.string { data := #[115, 116, 111, 114, 101] })).run Tryd.prog w = .ok (.bool false) w := fun w => (eql_bs [108, 111, 97, 100] [115, 116, 111, 114, 101] w).trans (by rw [decide_eq_false (by decide)])
  have he5 : ∀ w, (binOp .eql 9 (.string (bs [108, 111, 97, 100])) (.string { data := #[101, 118, 105, 99, 116] })).run Tryd.prog w = .ok (.bool false) w := fun w => (eql_bs [108, 111, 97, 100] [101, 118, 105, 99, 116] w).trans (by rw [decide_eq_false (by decide)])
  have he6 : ∀ w, (binOp .eql 9 (.string (bs [108, 111, 97, 100])) (.string { data := #[112, 114, 101, 102, 101, 116, 99, 104] })).run Tryd.prog w = .ok (.bool false) w := fun w => (eql_bs [108, 111, 97, 100] [112, 114, 101, 102, 101, 116, 99, 104] w).trans (by rw [decide_eq_false (by decide)])
  have HNS : Hid (∀ v p c, StrR v p (ws.take 1) → Calls Tryd.prog 41 #[.slice p 1 c] v fun e w' => ∃ gF cF, e = .returned (.tuple #[.slice (some ⟨gF, 0, none⟩) 1 cF, .bool true]) ∧ gF < w'.heap.size ∧ (∀ k x, [f0][k]? = some x → w'.cell? ⟨gF, k, none⟩ = some (.int .i64 x)) ∧ Below v.heap.size v w') := Lib.hid (fun v p c hp => (refnumbers_any (ws.take 1) p 1 c v hp (by rw [List.length_take]; omega) (by omega) (fun x hx => hxl x (List.mem_of_mem_take hx))).mono (by
    rintro e w' ⟨u, rfl, hu, hb⟩
    rw [h1, hF] at hu
    obtain ⟨gF, cF, rfl, hg, hc⟩ := (hu rfl).open
    rw [h1]
    exact ⟨gF, cF, rfl, hg, hc, hb⟩))
  have HWS : Hid (∀ v p c, StrR v p (ws.drop 1) → Calls Tryd.prog 42 #[.slice p (2 - 1) c] v fun e w' => ∃ gW cW, e = .returned (.tuple #[.slice (some ⟨gW, 0, none⟩) 1 cW, .bool true]) ∧ gW < w'.heap.size ∧ (∀ k x, [x0][k]? = some x → w'.cell? ⟨gW, k, none⟩ = some (.int .u64 x)) ∧ Below v.heap.size v w') := Lib.hid (fun v p c hp => (refwords_any (ws.drop 1) p (2 - 1) c v hp (by rw [List.length_drop]; omega) (by omega) (fun x hx => hxl x (List.mem_of_mem_drop hx))).mono (by
    rintro e w' ⟨u, rfl, hu, hb⟩
    rw [h2, hG] at hu
    obtain ⟨gW, cW, rfl, hg, hc⟩ := (hu rfl).open
    rw [h2]
    exact ⟨gW, cW, rfl, hg, hc, hb⟩))
  have HM := Lib.hid hm.symm
  have HN : Hid (1 ≤ 2) := Lib.hid (by decide)
  clear hyes h hl hm hs hxl hF hG h1 h2 hne hce
  generalize hR : EvRes l w = R at HF ⊢
  clear hR
  have HZ : Hid (∀ V, Below w.heap.size w V → V.heap[w.heap.size]? = some (.cells (evA (ev0 0)) 36 (0, 0)) → (V.setRow w.heap.size (evA (ev0 0))).heap[w.heap.size]? = some (.cells (evA (ev0 0)) 36 (0, 0)) ∧ Below w.heap.size w (V.setRow w.heap.size (evA (ev0 0)))) := Lib.hid (fun V h1 h2 => ⟨setRow_same _ _ _ _ _ h2, below_row h1 (Nat.le_refl _) _⟩)
  have hbz : Below w.heap.size w (w.alloc (.cells (evA (ev0 0)) 36)) := bal (Below.refl _ _) _
  have hzz : (w.alloc (.cells (evA (ev0 0)) 36)).heap[w.heap.size]? = some (.cells (evA (ev0 0)) 36 (0, 0)) := World.alloc_heap_new _ _
  have HST : Hid (∀ V, Below (w.alloc (.cells (evA (ev0 0)) 36)).heap.size (w.alloc (.cells (evA (ev0 0)) 36)) V → Below w.heap.size w V ∧ V.heap[w.heap.size]? = some (.cells (evA (ev0 0)) 36 (0, 0))) := Lib.hid (fun V h => ⟨hbz.trans (h.mono (by simp)), (h.block _ (by simp)).trans hzz⟩)
  clear hbz hzz
  go_enter Tryd.func31, Tryd.ntmps31
  go_upto_region 34 with (first
    | (go_at_call 30; (with_reducible refine (HS.out _).mono ?_); rintro e w2 ⟨g, cap, rfl, hcap, hR, hgc, hb2⟩; obtain ⟨p1, c1, p2, c2, hs1, hs2, hR1, hR2⟩ := cut2 2 hR HM.out hcap HN.out rfl; have HV2 := Lib.hid (HST.out _ hb2); have HR1 := Lib.hid hR1; have HR2 := Lib.hid hR2; have hgl : g < w2.heap.size := (World.block_lt_of_cell? _ _ hgc); clear hb2 hcap hR hR1 hR2)
    | (go_at_call 41; (with_reducible refine (HNS.out _ _ _ HR1.out).mono ?_); rintro e w3 ⟨gF, cF, rfl, hgF, hFc, hb3⟩; have HR3 := Lib.hid (HR2.out.call hb3); have HB3 := Lib.hid hb3; have HFC := Lib.hid hFc; clear hFc hb3)
    | (go_at_call 42; (with_reducible refine (HWS.out _ _ _ HR3.out).mono ?_); rintro e w4 ⟨gW, cW, rfl, hgW, hWc, hb4⟩; obtain ⟨hgc4, hgl4, hgF4, hF4, hV4, hVo⟩ := pack4 HV2.out HB3.out hb4 hgc hgF HFC.out; have hf0 : w4.cell? ⟨gF, 0, none⟩ = some (.int .i64 f0) := hF4 0 f0 rfl; have HF4 := Lib.hid hF4; have HV4 := Lib.hid hV4; have HV := Lib.hid hVo; clear hF4 hV4 hVo; have HW4 := Lib.hid hWc; clear hb4 hWc))
  obtain ⟨w5, hw5⟩ : ∃ y, y = w4.alloc (.cells #[.int .i64 0, .int .i64 f0, .int .i64 0, .int .u64 0, .int .u64 0, .int .u64 0, .int .u64 0, .int .u64 0, .int .u64 0, .int .u64 0, .int .u64 0, .int .u64 0, .int .i64 0, .int .i64 0, .int .i64 0] 36) := ⟨_, rfl⟩
  rw [← hw5]
  have hb5 : Below w4.heap.size w4 w5 := hw5 ▸ bal (Below.refl _ _) _
  have hbox : w5.heap[w4.heap.size]? = some (.cells #[.int .i64 0, .int .i64 f0, .int .i64 0, .int .u64 0, .int .u64 0, .int .u64 0, .int .u64 0, .int .u64 0, .int .u64 0, .int .u64 0, .int .u64 0, .int .u64 0, .int .i64 0, .int .i64 0, .int .i64 0] 36 (0, 0)) := by rw [hw5]; exact World.alloc_heap_new _ _
  have hV5 : Below w.heap.size w w5 ∧ w5.heap[w.heap.size]? = some (.cells (evA (ev0 0)) 36 (0, 0)) := by rw [hw5]; exact HV.out _
  have t0 : w5.cell? ⟨gW, 0, none⟩ = some (.int .u64 x0) := (World.cell?_of_block (hb5.block gW hgW)).trans (HW4.out 0 x0 rfl)
  have d0 : w5.cell? ⟨w4.heap.size, 0, none⟩ = some (.int .i64 0) := by rw [row_cell hbox]; rfl
  have d10 : w5.cell? ⟨w4.heap.size, 10, none⟩ = some (.int .u64 0) := by rw [row_cell hbox]; rfl
  have fr : ∀ j, w5.frozen? ⟨w4.heap.size, j, none⟩ = false := fun j => by simp [World.frozen?, hbox]
  have h45 : w4.heap.size < w5.heap.size := (Array.getElem?_eq_some_iff.1 hbox).1
  have HBOX := Lib.hid hbox
  have HV5 := Lib.hid hV5
  have HNE : Hid (w.heap.size ≠ w4.heap.size) := Lib.hid (fun e => by have := (Array.getElem?_eq_some_iff.1 HV4.out.2).1; omega)
  clear hw5 hb5 hbox hV5
  go_region
  have HLE : Hid (w.heap.size ≤ w4.heap.size) := Lib.hid HV4.out.1.size
  obtain ⟨w6, hw6⟩ : ∃ y, y = ((w5.setCell ⟨w4.heap.size, 0, none⟩ (.int .i64 3)).setCell ⟨w4.heap.size, 10, none⟩ (.int .u64 x0)).drew := ⟨_, rfl⟩
  rw [← hw6]
  have hbx : w6.heap[w4.heap.size]? = some (.cells (evA ce) 36 (0, 0)) := by
    rw [hw6, HCE.out]
    exact (Go.heap_setCell_same _ _ _ _ _ _ (Go.heap_setCell_same _ _ _ _ _ _ HBOX.out))
  have hzz : w6.heap[w.heap.size]? = some (.cells (evA (ev0 0)) 36 (0, 0)) := by
    rw [hw6]
    exact ((Go.heap_setCell_other _ _ _ _ HNE.out).trans ((Go.heap_setCell_other _ _ _ _ HNE.out).trans HV5.out.2))
  have hbb : Below w.heap.size w w6 := by
    rw [hw6]
    exact ((HV5.out.1.setCell (p := ⟨w4.heap.size, 0, none⟩) HLE.out _).setCell (p := ⟨w4.heap.size, 10, none⟩) HLE.out _).drew
  have HBX : Hid (w6.rangeAt w4.heap.size 0 (evA ce).toList) := Lib.hid (fun j u hj => by rw [row_cell hbx]; simpa using hj)
  have HZZ := Lib.hid hzz
  have HBB := Lib.hid hbb
  clear hw6 hbx hzz hbb
  go_wp2_with (first
    | (refine wpList_load_mid rfl 36 _ rfl w4.heap.size 0 rfl (evA ce).toList _ HBX.out Tryd.underlying36 rfl (by kernel_rfl) ?_; rw [Array.toArray_toList])
    | (refine wpList_store_row rfl 36 _ _ rfl w.heap.size _ rfl rfl _ _ HZZ.out (by kernel_rfl) rfl (ev_one ce) ?_; generalize hVV : World.setRow _ _ _ = V; have HQ : Hid (V.heap[w.heap.size]? = some (.cells (evA ce) 36 (0, 0)) ∧ Below w.heap.size w V) := Lib.hid (by rw [← hVV]; exact ⟨setRow_same _ _ _ _ _ HZZ.out, below_row HBB.out (Nat.le_refl _) _⟩); clear hVV))
  have y0 := load_ev_row HQ.out.1
  exact bodyPost_ret (v := .tuple #[evV ce, .bool true]) (by simp [results, Tryd.results31, asAddr, Sem.run_bind, Sem.run_pure, Result.andThen_ok, y0]) rfl (HF.out _ _ rfl HQ.out.2)
end Sc
end Go.Proofs.YthgmanncmekeeaaDoor
