/- package thread, over tables of any number of rows: Server. -/
import Derived.Test.YtiagkoiikmmgdaaTh6
namespace Go.Proofs.Ytiagkoiikmmgdaa
set_option linter.unusedVariables false
set_option linter.unusedSimpArgs false
open Go.ChangeShapes Go.WideShapes Go.ChangeAt Go.RowKit Go.Shelf
open TabT
attribute [local go_sem] Oper.semAt_some

/-- Who serves a thread. -/
def srvT (L : List Th) (id : Int) : Int := if id = 0 then 0 else ((L.find? (fun y => decide (y.ca = id))).map Th.id).getD 0
theorem srv_none {L : List Th} {id : Int} (h : ∀ (j : Nat) (y : Th), j < L.length → L[j]? = some y → y.ca ≠ id) : srvT L id = 0 := by
  unfold srvT
  split
  · rfl
  · have : L.find? (fun y => decide (y.ca = id)) = none := by
      rw [List.find?_eq_none]
      intro y hy
      obtain ⟨j, hj⟩ := List.getElem?_of_mem hy
      have := h j y (List.getElem?_eq_some_iff.1 hj).1 hj
      simpa using this
    rw [this]
    rfl
theorem srv_some : ∀ {L : List Th} {id : Int} {k : Nat} {x : Th}, id ≠ 0 → (∀ (j : Nat) (y : Th), j < k → L[j]? = some y → y.ca ≠ id) → L[k]? = some x → x.ca = id → srvT L id = x.id
  | [], id, k, x, _, _, hx, _ => by simp at hx
  | z :: L, id, 0, x, h0, _, hx, he => by
    simp at hx
    subst hx
    unfold srvT
    rw [if_neg h0, List.find?_cons_of_pos (by simpa using he)]
    rfl
  | z :: L, id, k + 1, x, h0, hn, hx, he => by
    have hz := hn 0 z (by omega) rfl
    have ih := srv_some (L := L) (k := k) h0 (fun j y hj hy => hn (j + 1) y (by omega) (by simpa using hy)) (by simpa using hx) he
    unfold srvT at ih ⊢
    rw [if_neg h0] at ih ⊢
    rw [List.find?_cons_of_neg (by simpa using hz)]
    exact ih
theorem HiKept.setCell {E : TypeId} {B k o : Nat} {a b : World} {u : Value} (h : HiKept E B a b) (hk : k < B) : HiKept E B a (b.setCell ⟨k, o, none⟩ u) :=
  ⟨by simpa using h.1, fun j ob hj hl ho => (Go.heap_setCell_other _ _ _ _ (by simp; omega)).trans (h.2 j ob hj hl ho)⟩
theorem heap_putObj_neT {W : World} {k b : Nat} {o : Obj} (h : k ≠ b) : (W.putObj b o).heap[k]? = W.heap[k]? := by
  simp [World.putObj, Array.getElem?_setIfInBounds, h.symm]
attribute [-go_sem] loadVar
set_option maxRecDepth 100000 in
set_option maxHeartbeats 2000000 in
theorem server_in (w : World) (b base : Nat) (v : Value) (L : List Th) (id : Int) (h : ThrAt w b base v L) (hlen : L.length < 1000000) (h0 : ¬ id = 0) :
    CallsIn Fence.wide 3 Try.prog 20 #[.pointer (some ⟨b, 0, none⟩), .int .i64 id] w fun e w' => e = .returned (.int .i64 (srvT L id)) ∧ Below w.heap.size w w' := by
  have HA := Lib.hid h
  have hbl := h.lt
  clear h
  have q0 : (loadVar 3 ⟨w.heap.size, 0, none⟩).run Try.prog ((w.alloc (.cells #[.int .i64 id] 3)).alloc (.cells #[.int .i64 0] 3)) = .ok (.int .i64 id) ((w.alloc (.cells #[.int .i64 id] 3)).alloc (.cells #[.int .i64 0] 3)) := by simp [go_sem, loadVar]
  refine callsIn_of_wp_marks Try.func20 rfl trivial ?_ rfl
  simp only [Try.ntmps20, List.size_toArray, List.length_cons, List.length_nil, Nat.reduceAdd, Nat.reduceSub, Array.replicate_succ, Array.replicate_zero, List.push_toArray, List.append_toArray, List.nil_append, List.cons_append]
  gi_wp2_with (refine ⟨trivial, ?_⟩; gi_at_call 30; refine (own_in _ _ _).mono ?_; rintro e w' ⟨rfl, rfl⟩)
  obtain ⟨Wc, hWc⟩ : ∃ x, x = ((w.alloc (.cells #[.int .i64 id] 3)).alloc (.cells #[.int .i64 0] 3)).alloc (.cells #[.pointer (some ⟨b, 0, none⟩)] 24) := ⟨_, rfl⟩
  rw [← hWc]
  have hcz : Wc.heap.size = w.heap.size + 3 := by rw [hWc]; simp
  have hBW : Below w.heap.size w Wc := by rw [hWc]; exact bal (bal (bal (Below.refl _ _) _) _) _
  have hx0 : Wc.cell? ⟨w.heap.size, 0, none⟩ = some (.int .i64 id) := by rw [hWc]; go_simp
  have hx1 : Wc.cell? ⟨w.heap.size + 1, 0, none⟩ = some (.int .i64 0) := by rw [hWc]; go_simp
  have hf1 : Wc.frozen? ⟨w.heap.size + 1, 0, none⟩ = false := by rw [hWc]; go_simp
  have hx2 : Wc.cell? ⟨w.heap.size + 2, 0, none⟩ = some (.pointer (some ⟨b, 0, none⟩)) := by
    rw [hWc]
    have := (cell_box (heap_alloc_new ((w.alloc (.cells #[.int .i64 id] 3)).alloc (.cells #[.int .i64 0] 3)) (.cells #[.pointer (some ⟨b, 0, none⟩)] 24))).1
    simpa using this
  clear hWc q0
  have HCZ := Lib.hid hcz
  have hll : (rowsH L).length = L.length := rowsH_len L
  have hv : (v = .slice none 0 0 ∧ L.length = 0) ∨ ∃ g c, v = .slice (some ⟨g, 0, none⟩) L.length c := by
    rcases HA.out.form with ⟨h1, h2⟩ | ⟨g, c, h1, _⟩
    · exact .inl ⟨h1, by rw [← hll, h2]; rfl⟩
    · exact .inr ⟨g, c, by rw [← hll]; exact h1⟩
  have hkey : ∀ U : World, Below w.heap.size w U → ∀ g, v.ownBlock = some g → ∀ (k j : Nat) (y : Th) (u : Value), L[k]? = some y → (rcells (rowH y))[j]? = some u → U.cell? ⟨g, k * 25 + j, none⟩ = some u := by
    intro U hU g hg k j y u hk hj
    rcases (HA.out.call hU).form with ⟨h1, _⟩ | ⟨g', c, h1, _, _, _, _, hR⟩
    · rw [h1] at hg; cases hg
    · rw [h1] at hg
      cases hg
      exact hR k j (rowH y) u (by rw [rowsH_get, hk]; rfl) hj
  have HK := Lib.hid hkey
  have HV := Lib.hid hv
  have HLN := Lib.hid hlen
  have HBW := Lib.hid hBW
  have HX0 := Lib.hid hx0
  have HX1 := Lib.hid hx1
  have HF1 := Lib.hid hf1
  have HX2 := Lib.hid hx2
  clear hll hv hkey hBW hlen hx0 hx1 hf1 hx2
  refine wpIn_range_pa rfl (by decide) (gf := 34) (lb := #[.pointer (some ⟨w.heap.size + 2, 0, none⟩)]) rfl trivial (enters_of Try.func34 (by kernel_rfl) rfl)
    (encs := fun k => #[.agg ((L[k]?.getD zeroT).cells.toArray)]) (N := L.length) 35 (fun k U => Below Wc.heap.size Wc U ∧ ∀ (j : Nat) (y : Th), j < k → L[j]? = some y → y.ca ≠ id)
    (fun c k U => c = .ret ∧ (∃ y, L[k]? = some y ∧ y.ca = id ∧ U.cell? ⟨w.heap.size + 1, 0, none⟩ = some (.int .i64 y.id)) ∧ (∀ (j : Nat) (y : Th), j < k → L[j]? = some y → y.ca ≠ id) ∧ Below w.heap.size w U)
    (own_px 35 (by kernel_rfl) (by kernel_rfl) 0 (w.heap.size + 2) b L.length _ v (fun k => (L[k]?.map Th.id).getD 0) (fun k => L[k]?.getD zeroT) _ HV.out (by have := HLN.out; omega) (fun g hg => by have := (TabAt.own HA.out hg).1; have := HA.out.ne; omega) ?hI0) (fun _ => rfl) ?hI ?hIx ⟨Below.refl _ _, fun j y h => by omega⟩
    (fun k => .cells (L[k]?.getD zeroT).cells.toArray 35) (fun _ => rfl)
    (fun x s => { tmps := #[.pointer (some ⟨b, 0, none⟩), .int .i64 id, undef, .pointer (some ⟨w.heap.size, 0, none⟩), .pointer (some ⟨w.heap.size + 1, 0, none⟩), .pointer (some ⟨s, 0, none⟩), .int .i64 id, .bool false, .pointer (some ⟨b, 0, none⟩), .func (.func 34) #[] #[.pointer (some ⟨w.heap.size + 2, 0, none⟩)], .agg (L[x]?.getD zeroT).cells.toArray, undef, undef, undef, undef, undef, undef], defers := [] }) ?hassign ?hbody ?hdone ?hstop
  case hI0 =>
    rintro k U ⟨hU, -⟩
    have hcz := HCZ.out
    have hB := HBW.out.trans (hU.mono (by omega))
    refine ⟨(hU.cell (p := ⟨w.heap.size + 2, 0, none⟩) (by simp; omega)).trans HX2.out, (HA.out.call hB).cell, fun g hg j hj => ?_⟩
    have hy : L[j]? = some (L[j]'hj) := List.getElem?_eq_getElem hj
    have := fun i u => HK.out U hB g hg j i _ u hy
    rw [hy]
    exact ⟨this 0 _ rfl, fun i u hi => by rw [show j * 25 + 1 + i = j * 25 + (i + 1) by omega]; exact this (i + 1) u (by simpa [rcells, rowH] using hi)⟩
  case hI =>
    intro s A C row h hgr hr
    exact ⟨h.1.trans (((Below.refl _ A).grown hgr h.1.size (fun k hk => (hr k hk).1))), h.2⟩
  case hIx =>
    intro c s A C row h hgr hr
    have hcz := HCZ.out
    have hs : w.heap.size + 1 < Wc.heap.size := by omega
    have e : ∀ k, k < Wc.heap.size → some k ≠ row := fun k hk e => by have := (hr k e.symm).1; omega
    obtain ⟨y, y1, y2, y3⟩ := h.2.1
    exact ⟨h.1, ⟨y, y1, y2, hgr.cell y3 (e _ (by simp; omega))⟩, h.2.2.1, h.2.2.2.grown hgr h.2.2.2.size (fun k hk => by have := (hr k hk).1; omega)⟩
  case hassign =>
    intro l x W K hK
    have hz := heap_alloc_new W (.cells #[.int .i64 0, .int .i64 0, .int .i64 0, .int .u64 0, .int .u64 0, .int .u64 0, .int .u64 0, .int .u64 0, .bool false, .int .i64 0, .int .i64 0, .int .u64 0, .int .u64 0, .int .u64 0, .int .u64 0, .int .u64 0, .int .i64 0, .int .i64 0, .bool false, .bool false, .bool false, .bool false, .int .u64 0, .int .u64 0] 35)
    rw [← alloc_setRow W #[.int .i64 0, .int .i64 0, .int .i64 0, .int .u64 0, .int .u64 0, .int .u64 0, .int .u64 0, .int .u64 0, .bool false, .int .i64 0, .int .i64 0, .int .u64 0, .int .u64 0, .int .u64 0, .int .u64 0, .int .u64 0, .int .i64 0, .int .i64 0, .bool false, .bool false, .bool false, .bool false, .int .u64 0, .int .u64 0]] at hK
    have HKK := Lib.hid hK
    clear hK
    gi_wp2_with (refine wpListIn_store_row rfl 35 _ _ rfl W.heap.size _ rfl rfl _ _ hz (by kernel_rfl) rfl (th_one' _) ?_)
    exact HKK.out
  case hbody =>
    rintro l k s U hkN ⟨hU, hno⟩ hs hbox
    obtain ⟨y, hy⟩ : ∃ y, L[k]? = some y := ⟨L[k]'hkN, List.getElem?_eq_getElem hkN⟩
    rw [hy] at hbox ⊢
    simp only [Option.getD_some] at hbox ⊢
    have hcz := HCZ.out
    have hsz := hU.size
    have x0 := (hU.cell (p := ⟨w.heap.size, 0, none⟩) (by simp; omega)).trans HX0.out
    have x1 := (hU.cell (p := ⟨w.heap.size + 1, 0, none⟩) (by simp; omega)).trans HX1.out
    have f1 := (hU.frozen (p := ⟨w.heap.size + 1, 0, none⟩) (by simp; omega)).trans HF1.out
    have b9 := (cell_cur (cur := y.cells) hbox 9)
    have b0 := (cell_cur (cur := y.cells) hbox 0)
    have e9 : y.cells[9]? = some (.int .i64 y.ca) := rfl
    have e0 : y.cells[0]? = some (.int .i64 y.id) := rfl
    rw [e9] at b9
    rw [e0] at b0
    have q0 : (loadVar 3 ⟨w.heap.size, 0, none⟩).run Try.prog U = .ok (.int .i64 id) U := by simp [go_sem, loadVar, x0]
    have q1 : (loadVar 3 ⟨s, 9, none⟩).run Try.prog U = .ok (.int .i64 y.ca) U := by simp [go_sem, loadVar, b9]
    have q2 : (loadVar 3 ⟨s, 0, none⟩).run Try.prog U = .ok (.int .i64 y.id) U := by simp [go_sem, loadVar, b0]
    have HY := Lib.hid hy
    have HU := Lib.hid hU
    have HNO := Lib.hid hno
    have hBU : Below w.heap.size w U := HBW.out.trans (hU.mono (by omega))
    have HBU := Lib.hid hBU
    have hlt1 : w.heap.size + 1 < Wc.heap.size := by omega
    have HL1 := Lib.hid hlt1
    clear hy hU hno hbox e9 e0 b9 b0 x0 hBU hlt1 hcz
    by_cases he : y.ca = id
    · gi_wp2
      have hl1 := HL1.out
      refine ⟨(HiKept.refl _ _ _).setCell hl1, rfl, ⟨y, HY.out, he, by go_simp⟩, HNO.out, HBU.out.setCell (by simp) _⟩
    · gi_wp2
      refine ⟨HiKept.refl _ _ _, HU.out, fun j z hj hz => ?_⟩
      rcases Nat.lt_or_ge j k with q | q
      · exact HNO.out j z q hz
      · obtain rfl : j = k := by omega
        rw [HY.out] at hz
        cases hz
        exact he
  case hdone =>
    rintro D W hD ⟨hB, hno⟩ hK
    have hcz := HCZ.out
    have d0 : W.cell? ⟨w.heap.size + 1, 0, none⟩ = some (.int .i64 0) := (hB.cell (p := ⟨w.heap.size + 1, 0, none⟩) (by simp; omega)).trans HX1.out
    have f0 : W.frozen? ⟨w.heap.size + 1, 0, none⟩ = false := (hB.frozen (p := ⟨w.heap.size + 1, 0, none⟩) (by simp; omega)).trans HF1.out
    have BI : Below w.heap.size w W := HBW.out.trans (hB.mono (by omega))
    have HS := Lib.hid (srv_none hno)
    clear hB
    gi_wp2
    have q0 : (W.setCell ⟨w.heap.size + 1, 0, none⟩ (.int .i64 0)).cell? ⟨w.heap.size + 1, 0, none⟩ = some (.int .i64 0) := by go_simp
    have hKU : (W.setCell ⟨w.heap.size + 1, 0, none⟩ (.int .i64 0)).heap[D]? = some (.deferred (some [])) := by
      rw [Go.heap_setCell_other _ _ _ _ (by simp; omega)]
      exact hK
    have BU : Below w.heap.size w (W.setCell ⟨w.heap.size + 1, 0, none⟩ (.int .i64 0)) := Below.setCell BI (by simp) _
    obtain ⟨U, hU⟩ : ∃ U, U = W.setCell ⟨w.heap.size + 1, 0, none⟩ (.int .i64 0) := ⟨_, rfl⟩
    rw [← hU] at q0 hKU BU ⊢
    clear hU d0 f0
    refine ⟨by simp, .inl ⟨_, _, rfl, run_takeDeferred hKU, ?_⟩⟩
    have g0 : (U.putObj D (.deferred none)).cell? ⟨w.heap.size + 1, 0, none⟩ = some (.int .i64 0) := (World.cell?_of_block (heap_putObj_neT (by simp; omega))).trans q0
    have q1 : (loadVar 3 ⟨w.heap.size + 1, 0, none⟩).run Try.prog (U.putObj D (.deferred none)) = .ok (.int .i64 0) (U.putObj D (.deferred none)) := by simp [go_sem, loadVar, g0]
    exact ⟨.int .i64 0, by simp [results, Try.results20, go_sem, q1], by rw [HS.out], BU.trans (belowK_b (w := w) (Nat.le_refl _) U D _ _ (by omega) hKU rfl rfl)⟩
  case hstop =>
    rintro D c k W hD hkN ⟨rfl, ⟨y, hy, he, q0⟩, hno, hB⟩ hK
    have hcz := HCZ.out
    have HS := Lib.hid (srv_some h0 hno hy he)
    gi_wp2
    refine ⟨by simp, .inl ⟨_, _, rfl, run_takeDeferred hK, ?_⟩⟩
    have g0 : (W.putObj D (.deferred none)).cell? ⟨w.heap.size + 1, 0, none⟩ = some (.int .i64 y.id) := (World.cell?_of_block (heap_putObj_neT (by simp; omega))).trans q0
    have q1 : (loadVar 3 ⟨w.heap.size + 1, 0, none⟩).run Try.prog (W.putObj D (.deferred none)) = .ok (.int .i64 y.id) (W.putObj D (.deferred none)) := by simp [go_sem, loadVar, g0]
    exact ⟨.int .i64 y.id, by simp [results, Try.results20, go_sem, q1], by rw [HS.out], hB.trans (belowK_b (w := w) (Nat.le_refl _) W D _ _ (by omega) hK rfl rfl)⟩
attribute [go_sem] loadVar
set_option maxRecDepth 100000 in
set_option maxHeartbeats 1000000 in
theorem server_0 (w : World) (p : Value) :
    CallsIn Fence.wide 3 Try.prog 20 #[p, .int .i64 0] w fun e w' => e = .returned (.int .i64 0) ∧ Below w.heap.size w w' := by
  refine callsIn_of_wp_marks Try.func20 rfl trivial ?_ rfl
  simp only [Try.ntmps20, List.size_toArray, List.length_cons, List.length_nil, Nat.reduceAdd, Nat.reduceSub, Array.replicate_succ, Array.replicate_zero, List.push_toArray, List.append_toArray, List.nil_append, List.cons_append]
  gi_wp2
  exact ⟨.int .i64 0, by simp [results, Try.results20, go_sem], rfl, bal (bal (Below.refl _ _) _) _⟩
theorem tserver_any (w : World) (b base : Nat) (v : Value) (L : List Th) (id : Int) (h : ThrAt w b base v L) (hlen : L.length < 1000000) :
    Calls Try.prog 20 #[.pointer (some ⟨b, 0, none⟩), .int .i64 id] w fun e w' => e = .returned (.int .i64 (srvT L id)) ∧ Below w.heap.size w w' := by
  by_cases h0 : id = 0
  · subst h0
    exact callsIn_wide.1 (server_0 w _)
  · exact callsIn_wide.1 (server_in w b base v L id h hlen h0)
end Go.Proofs.Ytiagkoiikmmgdaa
