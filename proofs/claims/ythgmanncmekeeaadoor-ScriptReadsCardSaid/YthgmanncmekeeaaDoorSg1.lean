/- chapter 35: a line read by the own answer: kind 1. -/
import Derived.Test.YthgmanncmekeeaaDoorSf2
namespace Go.Proofs.YthgmanncmekeeaaDoor
set_option linter.unusedVariables false
set_option linter.unusedSimpArgs false
open Go.ChangeShapes Go.WideShapes Go.ChangeAt Go.RowKit Go.Shelf
attribute [-go_sem] binOp_string_add binOp_string_eql binOp_string_neq run_index_string
attribute [local go_sem] Sc.bs_size
attribute [local go_sem] Oper.semAt_some
namespace Sc
set_option maxRecDepth 100000 in
set_option maxHeartbeats 2000000 in
theorem evref_1_short (l : Bs) (hl : l.length ≤ 70000) (w : World) (ws : List Bs) (h : spl 32 l = [112, 105, 99, 107] :: ws) (hs : ws.length < 2) : Calls Tryd.prog 31 #[.string (bs l)] w (EvRes l w) := by
  have hno : evOf l = none := by rw [evOf_kind 1 h (by decide) (by decide), if_neg (fun q => by have := q.1; have : (flds 1).length = 2 := rfl; omega)]
  obtain ⟨m, hm⟩ : ∃ m, m = ws.length := ⟨_, rfl⟩
  rw [← hm] at hs
  have HS := Lib.hid (fun v => refsplit_row l hl v [112, 105, 99, 107] ws h m hm.symm)
  have HF : Hid (∀ e w', e = .returned (.tuple #[evV (ev0 0), .bool false]) → Below w.heap.size w w' → EvRes l w e w') := Lib.hid (fun e w' h1 h2 => ⟨_, _, h1, fun _ => rfl, fun c hc => (by rw [hno] at hc; cases hc), h2⟩)
  have he1 : ∀ w, (binOp .eql 9 (.string (bs [112, 105, 99, 107])) (.string { data := #[112, 105, 99, 107] })).run Tryd.prog w = .ok (.bool true) w := fun w => (eql_bs [112, 105, 99, 107] [112, 105, 99, 107] w).trans (by rw [decide_eq_true rfl])
  have he2 : ∀ w, (binOp .eql 9 (.string (bs [112, 105, 99, 107])) (.string { data := #[99, 97, 108, 108] })).run Tryd.prog w = .ok (.bool false) w := fun w => (eql_bs [112, 105, 99, 107] [99, 97, 108, 108] w).trans (by rw [decide_eq_false (by decide)])
  have he3 : ∀ w, (binOp .eql 9 (.string (bs [112, 105, 99, 107])) (.string { data := #[108, 111, 97, 100] })).run Tryd.prog w = .ok (.bool false) w := fun w => (eql_bs [112, 105, 99, 107] [108, 111, 97, 100] w).trans (by rw [decide_eq_false (by decide)])
  have he4 : ∀ w, (binOp .eql 9 (.string (bs [112, 105, 99, 107])) (.string { data := #[115, 116, 111, 114, 101] })).run Tryd.prog w = .ok (.bool false) w := fun w => (eql_bs [112, 105, 99, 107] [115, 116, 111, 114, 101] w).trans (by rw [decide_eq_false (by decide)])
  have he5 : ∀ w, (binOp .eql 9 (.string (bs [112, 105, 99, 107])) (.string { data := #[101, 118, 105, 99, 116] })).run Tryd.prog w = .ok (.bool false) w := fun w => (eql_bs [112, 105, 99, 107] [101, 118, 105, 99, 116] w).trans (by rw [decide_eq_false (by decide)])
  have he6 : ∀ w, (binOp .eql 9 (.string (bs [112, 105, 99, 107])) (.string { data := #[112, 114, 101, 102, 101, 116, 99, 104] })).run Tryd.prog w = .ok (.bool false) w := fun w => (eql_bs [112, 105, 99, 107] [112, 114, 101, 102, 101, 116, 99, 104] w).trans (by rw [decide_eq_false (by decide)])
  have q : ((m : Int) < 2) = True := by rw [eq_iff_iff, iff_true]; omega
  have hmn : m + 1 < 4000000 := by omega
  clear hno h hl hm hs
  generalize hR : EvRes l w = R at HF ⊢
  clear hR
  have HZ : Hid (∀ V, Below w.heap.size w V → V.heap[w.heap.size]? = some (.cells (evA (ev0 0)) 36 (0, 0)) → (V.setRow w.heap.size (evA (ev0 0))).heap[w.heap.size]? = some (.cells (evA (ev0 0)) 36 (0, 0)) ∧ Below w.heap.size w (V.setRow w.heap.size (evA (ev0 0)))) := Lib.hid (fun V h1 h2 => ⟨setRow_same _ _ _ _ _ h2, below_row h1 (Nat.le_refl _) _⟩)
  have hbz : Below w.heap.size w (w.alloc (.cells (evA (ev0 0)) 36)) := bal (Below.refl _ _) _
  have hzz : (w.alloc (.cells (evA (ev0 0)) 36)).heap[w.heap.size]? = some (.cells (evA (ev0 0)) 36 (0, 0)) := World.alloc_heap_new _ _
  have HST : Hid (∀ V, Below (w.alloc (.cells (evA (ev0 0)) 36)).heap.size (w.alloc (.cells (evA (ev0 0)) 36)) V → Below w.heap.size w V ∧ V.heap[w.heap.size]? = some (.cells (evA (ev0 0)) 36 (0, 0))) := Lib.hid (fun V h => ⟨hbz.trans (h.mono (by simp)), (h.block _ (by simp)).trans hzz⟩)
  clear hbz hzz
  go_enter Tryd.func31, Tryd.ntmps31
  go_wp2_with (first
    | (go_at_call 30; (with_reducible refine (HS.out _).mono ?_); rintro e w2 ⟨g, cap, rfl, hcap, hR, hgc, hb2⟩; have HV := Lib.hid (HST.out _ hb2); clear hb2 hcap hR)
    | (refine wpList_store_row rfl 36 _ _ rfl w.heap.size _ rfl rfl _ _ HV.out.2 (by kernel_rfl) rfl (ev_one (ev0 0)) ?_; generalize hVV : World.setRow _ _ _ = V; have HQ : Hid (V.heap[w.heap.size]? = some (.cells (evA (ev0 0)) 36 (0, 0)) ∧ Below w.heap.size w V) := Lib.hid (by rw [← hVV]; exact HZ.out _ HV.out.1 HV.out.2); clear hVV))
  have y0 := load_ev_row HQ.out.1
  exact bodyPost_ret (v := .tuple #[evV (ev0 0), .bool false]) (by simp [results, Tryd.results31, asAddr, Sem.run_bind, Sem.run_pure, Result.andThen_ok, y0]) rfl (HF.out _ _ rfl HQ.out.2)
set_option maxRecDepth 100000 in
set_option maxHeartbeats 2000000 in
theorem evref_1_bad (l : Bs) (hl : l.length ≤ 70000) (w : World) (ws : List Bs) (h : spl 32 l = [112, 105, 99, 107] :: ws) (hs : 2 ≤ ws.length) (hb : okL numF (ws.take 2) = false ∨ okL numW (ws.drop 2) = false) : Calls Tryd.prog 31 #[.string (bs l)] w (EvRes l w) := by
  have hno : evOf l = none := by
    rw [evOf_kind 1 h (by decide) (by decide), if_neg]
    rintro ⟨_, q1, q2⟩
    rcases hb with hb | hb
    · exact absurd (show okL numF (ws.take 2) = true from q1) (by rw [hb]; decide)
    · exact absurd (show okL numW (ws.drop 2) = true from q2) (by rw [hb]; decide)
  obtain ⟨m, hm⟩ : ∃ m, m = ws.length := ⟨_, rfl⟩
  rw [← hm] at hs
  have HS := Lib.hid (fun v => refsplit_row l hl v [112, 105, 99, 107] ws h m hm.symm)
  have hml : m ≤ 70000 := by
    have := spl_count 32 l
    rw [h, List.length_cons, ← hm] at this
    omega
  have hxl : ∀ x ∈ ws, x.length ≤ 100000 := fun x hx => by
    have := spl_len 32 l x (by rw [h]; exact List.mem_cons_of_mem _ hx)
    omega
  have HF : Hid (∀ e w', e = .returned (.tuple #[evV (ev0 0), .bool false]) → Below w.heap.size w w' → EvRes l w e w') := Lib.hid (fun e w' h1 h2 => ⟨_, _, h1, fun _ => rfl, fun c hc => (by rw [hno] at hc; cases hc), h2⟩)
  have he1 : ∀ w, (binOp .eql 9 (.string (bs [112, 105, 99, 107])) (.string { data := #[112, 105, 99, 107] })).run Tryd.prog w = .ok (.bool true) w := fun w => (eql_bs [112, 105, 99, 107] [112, 105, 99, 107] w).trans (by rw [decide_eq_true rfl])
  have he2 : ∀ w, (binOp .eql 9 (.string (bs [112, 105, 99, 107])) (.string { data := #[99, 97, 108, 108] })).run Tryd.prog w = .ok (.bool false) w := fun w => (eql_bs [112, 105, 99, 107] [99, 97, 108, 108] w).trans (by rw [decide_eq_false (by decide)])
  have he3 : ∀ w, (binOp .eql 9 (.string (bs [112, 105, 99, 107])) (.string { data := #[108, 111, 97, 100] })).run Tryd.prog w = .ok (.bool false) w := fun w => (eql_bs [112, 105, 99, 107] [108, 111, 97, 100] w).trans (by rw [decide_eq_false (by decide)])
  have he4 : ∀ w, (binOp .eql 9 (.string (bs [112, 105, 99, 107])) (.string { data := #[115, 116, 111, 114, 101] })).run Tryd.prog w = .ok (.bool false) w := fun w => (eql_bs [112, 105, 99, 107] [115, 116, 111, 114, 101] w).trans (by rw [decide_eq_false (by decide)])
  have he5 : ∀ w, (binOp .eql 9 (.string (bs [112, 105, 99, 107])) (.string { data := #[101, 118, 105, 99, 116] })).run Tryd.prog w = .ok (.bool false) w := fun w => (eql_bs [112, 105, 99, 107] [101, 118, 105, 99, 116] w).trans (by rw [decide_eq_false (by decide)])
  have he6 : ∀ w, (binOp .eql 9 (.string (bs [112, 105, 99, 107])) (.string { data := #[112, 114, 101, 102, 101, 116, 99, 104] })).run Tryd.prog w = .ok (.bool false) w := fun w => (eql_bs [112, 105, 99, 107] [112, 114, 101, 102, 101, 116, 99, 104] w).trans (by rw [decide_eq_false (by decide)])
  have HNS : Hid (∀ v p c, StrR v p (ws.take 2) → Calls Tryd.prog 41 #[.slice p 2 c] v fun e w' => ∃ u, e = .returned (.tuple #[u, .bool (okL numF (ws.take 2))]) ∧ (okL numF (ws.take 2) = true → IntR .i64 w' u (valL numF (ws.take 2))) ∧ Below v.heap.size v w') := Lib.hid (fun v p c hp => refnumbers_any (ws.take 2) p 2 c v hp (by rw [List.length_take]; omega) (by omega) (fun x hx => hxl x (List.mem_of_mem_take hx)))
  have HWS : Hid (∀ v p c, StrR v p (ws.drop 2) → Calls Tryd.prog 42 #[.slice p (m - 2) c] v fun e w' => ∃ u, e = .returned (.tuple #[u, .bool (okL numW (ws.drop 2))]) ∧ (okL numW (ws.drop 2) = true → IntR .u64 w' u (valL numW (ws.drop 2))) ∧ Below v.heap.size v w') := Lib.hid (fun v p c hp => refwords_any (ws.drop 2) p (m - 2) c v hp (by rw [List.length_drop]; omega) (by omega) (fun x hx => hxl x (List.mem_of_mem_drop hx)))
  have q : ((m : Int) < 2) = False := by rw [eq_iff_iff, iff_false]; omega
  have hmn : m + 1 < 4000000 := by omega
  have HM := Lib.hid hm.symm
  have HN := Lib.hid hs
  obtain ⟨b1, hb1⟩ : ∃ b, b = okL numF (ws.take 2) := ⟨_, rfl⟩
  obtain ⟨b2, hb2⟩ : ∃ b, b = okL numW (ws.drop 2) := ⟨_, rfl⟩
  rw [← hb1] at HNS hb
  rw [← hb2] at HWS hb
  clear hno h hl hm hs hml hxl hb1 hb2
  generalize hR : EvRes l w = R at HF ⊢
  clear hR
  have HZ : Hid (∀ V, Below w.heap.size w V → V.heap[w.heap.size]? = some (.cells (evA (ev0 0)) 36 (0, 0)) → (V.setRow w.heap.size (evA (ev0 0))).heap[w.heap.size]? = some (.cells (evA (ev0 0)) 36 (0, 0)) ∧ Below w.heap.size w (V.setRow w.heap.size (evA (ev0 0)))) := Lib.hid (fun V h1 h2 => ⟨setRow_same _ _ _ _ _ h2, below_row h1 (Nat.le_refl _) _⟩)
  have hbz : Below w.heap.size w (w.alloc (.cells (evA (ev0 0)) 36)) := bal (Below.refl _ _) _
  have hzz : (w.alloc (.cells (evA (ev0 0)) 36)).heap[w.heap.size]? = some (.cells (evA (ev0 0)) 36 (0, 0)) := World.alloc_heap_new _ _
  have HST : Hid (∀ V, Below (w.alloc (.cells (evA (ev0 0)) 36)).heap.size (w.alloc (.cells (evA (ev0 0)) 36)) V → Below w.heap.size w V ∧ V.heap[w.heap.size]? = some (.cells (evA (ev0 0)) 36 (0, 0))) := Lib.hid (fun V h => ⟨hbz.trans (h.mono (by simp)), (h.block _ (by simp)).trans hzz⟩)
  clear hbz hzz
  cases b1 with
  | false =>
    clear hb
    go_enter Tryd.func31, Tryd.ntmps31
    go_wp2_with (first
      | (go_at_call 30; (with_reducible refine (HS.out _).mono ?_); rintro e w2 ⟨g, cap, rfl, hcap, hR, hgc, hb2⟩; obtain ⟨p1, c1, p2, c2, hs1, hs2, hR1, hR2⟩ := cut2 3 hR HM.out hcap HN.out rfl; have HV2 := Lib.hid (HST.out _ hb2); have HR1 := Lib.hid hR1; have HR2 := Lib.hid hR2; have hgl : g < w2.heap.size := (World.block_lt_of_cell? _ _ hgc); clear hb2 hcap hR hR1 hR2)
      | (go_at_call 41; (with_reducible refine (HNS.out _ _ _ HR1.out).mono ?_); rintro e w3 ⟨u, rfl, hu, hb3⟩; have HV3 := Lib.hid (HV2.out.1.trans (hb3.mono HV2.out.1.size)); have HR3 := Lib.hid (HR2.out.call hb3); have HB3 := Lib.hid hb3; have HU := Lib.hid hu; clear hu hb3)
      | (go_at_call 42; (with_reducible refine (HWS.out _ _ _ HR3.out).mono ?_); rintro e w4 ⟨uw, rfl, hu, hb4⟩; have HB4 := Lib.hid (HB3.out.trans (hb4.mono HB3.out.size)); have HV := Lib.hid (And.intro (HV2.out.1.trans (HB4.out.mono HV2.out.1.size)) ((HB4.out.block _ (Array.getElem?_eq_some_iff.1 HV2.out.2).1).trans HV2.out.2)); have HUW := Lib.hid hu; have HUB := Lib.hid (fun h => (HU.out h).call hb4); have hgc4 : w4.cell? ⟨g, 0, none⟩ = some (.string (bs [112, 105, 99, 107])) := ((World.cell?_of_block (HB4.out.block g hgl)).trans hgc); clear hu hb4)
      | (refine wpList_store_row rfl 36 _ _ rfl w.heap.size _ rfl rfl _ _ HV.out.2 (by kernel_rfl) rfl (ev_one (ev0 0)) ?_; generalize hVV : World.setRow _ _ _ = V; have HQ : Hid (V.heap[w.heap.size]? = some (.cells (evA (ev0 0)) 36 (0, 0)) ∧ Below w.heap.size w V) := Lib.hid (by rw [← hVV]; exact HZ.out _ HV.out.1 HV.out.2); clear hVV))
    have y0 := load_ev_row HQ.out.1
    exact bodyPost_ret (v := .tuple #[evV (ev0 0), .bool false]) (by simp [results, Tryd.results31, asAddr, Sem.run_bind, Sem.run_pure, Result.andThen_ok, y0]) rfl (HF.out _ _ rfl HQ.out.2)
  | true =>
    obtain rfl : b2 = false := by
      rcases hb with e | e
      · cases e
      · exact e
    clear hb
    go_enter Tryd.func31, Tryd.ntmps31
    go_wp2_with (first
      | (go_at_call 30; (with_reducible refine (HS.out _).mono ?_); rintro e w2 ⟨g, cap, rfl, hcap, hR, hgc, hb2⟩; obtain ⟨p1, c1, p2, c2, hs1, hs2, hR1, hR2⟩ := cut2 3 hR HM.out hcap HN.out rfl; have HV2 := Lib.hid (HST.out _ hb2); have HR1 := Lib.hid hR1; have HR2 := Lib.hid hR2; have hgl : g < w2.heap.size := (World.block_lt_of_cell? _ _ hgc); clear hb2 hcap hR hR1 hR2)
      | (go_at_call 41; (with_reducible refine (HNS.out _ _ _ HR1.out).mono ?_); rintro e w3 ⟨u, rfl, hu, hb3⟩; have HV3 := Lib.hid (HV2.out.1.trans (hb3.mono HV2.out.1.size)); have HR3 := Lib.hid (HR2.out.call hb3); have HB3 := Lib.hid hb3; have HU := Lib.hid hu; clear hu hb3)
      | (go_at_call 42; (with_reducible refine (HWS.out _ _ _ HR3.out).mono ?_); rintro e w4 ⟨uw, rfl, hu, hb4⟩; have HB4 := Lib.hid (HB3.out.trans (hb4.mono HB3.out.size)); have HV := Lib.hid (And.intro (HV2.out.1.trans (HB4.out.mono HV2.out.1.size)) ((HB4.out.block _ (Array.getElem?_eq_some_iff.1 HV2.out.2).1).trans HV2.out.2)); have HUW := Lib.hid hu; have HUB := Lib.hid (fun h => (HU.out h).call hb4); have hgc4 : w4.cell? ⟨g, 0, none⟩ = some (.string (bs [112, 105, 99, 107])) := ((World.cell?_of_block (HB4.out.block g hgl)).trans hgc); clear hu hb4)
      | (refine wpList_store_row rfl 36 _ _ rfl w.heap.size _ rfl rfl _ _ HV.out.2 (by kernel_rfl) rfl (ev_one (ev0 0)) ?_; generalize hVV : World.setRow _ _ _ = V; have HQ : Hid (V.heap[w.heap.size]? = some (.cells (evA (ev0 0)) 36 (0, 0)) ∧ Below w.heap.size w V) := Lib.hid (by rw [← hVV]; exact HZ.out _ HV.out.1 HV.out.2); clear hVV))
    have y0 := load_ev_row HQ.out.1
    exact bodyPost_ret (v := .tuple #[evV (ev0 0), .bool false]) (by simp [results, Tryd.results31, asAddr, Sem.run_bind, Sem.run_pure, Result.andThen_ok, y0]) rfl (HF.out _ _ rfl HQ.out.2)
end Sc
end Go.Proofs.YthgmanncmekeeaaDoor
