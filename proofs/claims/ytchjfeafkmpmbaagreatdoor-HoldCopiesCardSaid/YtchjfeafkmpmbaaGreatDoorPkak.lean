import Derived.Test.YtchjfeafkmpmbaaGreatDoorPkai
namespace Go.Proofs.YtchjfeafkmpmbaaGreatDoor
set_option linter.unusedVariables false
set_option linter.unusedSimpArgs false
set_option maxRecDepth 100000
set_option maxHeartbeats 8000000
open Lib (hid)
section
open Go.ChangeShapes Go.WideShapes Go.ChangeAt Go.RowKit Go.Shelf
attribute [local go_sem] Oper.semAt_some
namespace TabS
theorem sdrop_no (w : World) (b base : Nat) (tv : Value) (L : List Sn) (id : Int) (h : SlotsAt w b base tv L) (hh : hasS L id = false) :
  Calls Tryz.prog 94 #[.pointer (some ⟨b, 0, none⟩), .int .i64 id] w fun e w' => e = .returned (.int .i64 2) ∧ Below w.heap.size w w' := by
 have H := Lib.hid (h.call (bal (Below.refl w.heap.size w) (.cells #[.int .i64 0] 48))).tab
 have HH := Lib.hid (show hasR (rowsS L) id = false from hh)
 clear h hh
 go_enter Tryz.func94, Tryz.ntmps94
 go_wp2_with (go_at_call 114; refine (get_any _ b 0 base tv (rowsS L) id H.out).mono ?_; rw [HH.out]; rintro e w1 ⟨rfl, hb1⟩; obtain ⟨hc1, hf1⟩ := bcell hb1; have hz1 := hb1.size; have hz2 : w.heap.size < w1.heap.size := (by simp at hz1; omega))
 exact bodyPost_ret (v := .int .i64 2) (by simp [results, Tryz.results94, go_sem, hc1, hf1, hz2]) rfl ⟨rfl, (bgo (bal (Below.refl _ _) _) hb1).setCell (Nat.le_refl _) _⟩
structure DrI (w : World) (b base : Nat) (tv : Value) (L : List Sn) (C g n : Nat) (id : Int) (k : Nat) (U : World) : Prop where
 k : k = 0
 r0 : U.heap[w.heap.size]? = some (.cells #[.int .i64 0] 48 (0, 0))
 i : U.heap[C]? = some (.cells #[.int .i64 id] 3 (0, 0))
 c : U.heap[C + 1]? = some (.cells #[.slice (some ⟨g, 0, none⟩) n n] 108 (0, 0))
 s : C + 2 ≤ U.heap.size
 sl : SlotsAt U b base tv L
 bl : Below w.heap.size w U
 wc : w.heap.size < C
structure DrX (w : World) (C : Nat) (c : Code) (k : Nat) (U : World) : Prop where
 c : c = .ret
 r0 : U.heap[w.heap.size]? = some (.cells #[.int .i64 16] 48 (0, 0))
 s : C + 2 ≤ U.heap.size
 bl : Below w.heap.size w U
 wc : w.heap.size < C
theorem belowC {w A B : World} {N : Nat} {row : Option Nat} (h : Below w.heap.size w A) (hw : w.heap.size ≤ N) (hg : A.grownBy B row) (hr : ∀ r, row = some r → N ≤ r) : Below w.heap.size w B :=
 ⟨hg.os.trans h.os, hg.tape.trans h.tape, hg.output.trans h.output, Nat.le_trans h.size hg.size, fun k hk => (hg.block k (Nat.lt_of_lt_of_le hk h.size) (fun e => by have := hr k e.symm; omega)).trans (h.block k hk)⟩
theorem SlotsAt.grown {A B : World} {b base : Nat} {tv : Value} {L : List Sn} {row : Option Nat} (h : SlotsAt A b base tv L) (hg : A.grownBy B row) (hr : ∀ r, row = some r → ∃ o : Obj, A.heap[r]? = some o ∧ o.isCells = false) : SlotsAt B b base tv L := by
 have hb : ∀ (j : Nat) (v : Value), A.cell? ⟨b, j, none⟩ = some v → B.heap[b]? = A.heap[b]? := fun j v hv => hg.block b h.lt (fun e => by
  obtain ⟨o, ho, hc⟩ := hr b e.symm
  unfold World.cell? at hv
  rw [show A.heap[(⟨b, j, none⟩ : Addr).block]? = some o from ho] at hv
  cases o <;> simp_all [Obj.isCells])
 have e0 := hb 0 _ h.tab.cell
 refine ⟨h.tab.of hg.size (World.cell?_of_block e0) (World.frozen?_of_block e0) (fun g q => ?_), fun x hx => ⟨?_, (h.blk x hx).2⟩, h.ap, h.nt, h.bd⟩
 ·refine hg.block g (h.tab.own q).2 (fun e => ?_)
  obtain ⟨o, ho, hc⟩ := hr g e.symm
  rcases h.tab.row.2 with ⟨h1, _⟩ | ⟨g', cap, cur, h1, _, q2, _⟩
  ·rw [h1] at q; cases q
  ·rw [h1] at q; cases q; rw [q2] at ho; cases ho; cases hc
 ·refine (hg.block x.g (h.glt hx) (fun e => ?_)).trans (h.blk x hx).1
  obtain ⟨o, ho, hc⟩ := hr x.g e.symm
  rw [(h.blk x hx).1] at ho
  cases ho
  cases hc
theorem DrI.own {w : World} {b base C g n : Nat} {tv : Value} {L : List Sn} {id : Int} : OwnFrom (C + 2) (DrI w b base tv L C g n id) := by
 intro s A B row h hg hr
 have e : ∀ k, k < C + 2 → B.heap[k]? = A.heap[k]? := fun k hk => hg.block k (Nat.lt_of_lt_of_le hk h.s) (fun e => by have := (hr k e.symm).1; omega)
 have hwc := h.wc
 exact ⟨h.k, (e _ (by omega)).trans h.r0, (e _ (by omega)).trans h.i, (e _ (by omega)).trans h.c, Nat.le_trans h.s hg.size, h.sl.grown hg (fun r q => (hr r q).2), belowC h.bl (by omega) hg (fun r q => (hr r q).1), hwc⟩
theorem DrX.own {w : World} {C : Nat} (c : Code) : OwnFrom (C + 2) (DrX w C c) := by
 intro s A B row h hg hr
 have e : ∀ k, k < C + 2 → B.heap[k]? = A.heap[k]? := fun k hk => hg.block k (Nat.lt_of_lt_of_le hk h.s) (fun e => by have := (hr k e.symm).1; omega)
 have hwc := h.wc
 exact ⟨h.c, (e _ (by omega)).trans h.r0, Nat.le_trans h.s hg.size, belowC h.bl (by omega) hg (fun r q => (hr r q).1), hwc⟩
def DropPost (w : World) (b base : Nat) (tv : Value) (L : List Sn) (id : Int) (N : Nat) (e : Ending) (w' : World) : Prop :=
 (N ≠ 0 ∧ e = .returned (.int .i64 16) ∧ Below w.heap.size w w') ∨ (N = 0 ∧ e = .returned (.int .i64 0) ∧ ∃ tv', SlotsAt w' b base tv' (delS L id) ∧ SOnly w w' b tv tv' L (delS L id))
theorem drop_in (w : World) (b base : Nat) (tv : Value) (L : List Sn) (id : Int) (x : Sn) (h : SlotsAt w b base tv L) (hx : L[posS L id]? = some x) (hid : x.id = id) :
  CallsIn Fence.wide 3 Tryz.prog 94 #[.pointer (some ⟨b, 0, none⟩), .int .i64 id] w (DropPost w b base tv L id (heldL id 0 x.l).length) := by
 have hh : hasS L id = true := (hasS_at h).2 ⟨x, hx, hid⟩
 obtain ⟨p, hp⟩ : ∃ p, posR (rowsS L) id = p := ⟨_, rfl⟩
 have HH := Lib.hid (show hasR (rowsS L) id = true from hh)
 have HP := Lib.hid hp
 have HX := Lib.hid hx
 have hmem := List.mem_of_getElem? hx
 have hbx := h.bd x hmem
 obtain ⟨gt, ct, rfl, hgt, -, c1⟩ := h.place hx
 rw [show posS L id = p from hp] at c1
 have H := Lib.hid h
 have hbl := h.lt
 clear hh hp h hx
 refine callsIn_of_wp_marks Tryz.func94 rfl trivial ?_ rfl
 simp only [Tryz.ntmps94, List.size_toArray, List.length_cons, List.length_nil, Nat.reduceAdd, Nat.reduceSub, Array.replicate_succ, Array.replicate_zero, List.push_toArray, List.append_toArray, List.nil_append, List.cons_append]
 obtain ⟨w1, hw1⟩ : ∃ y, y = w.alloc (.cells #[.int .i64 0] 48) := ⟨_, rfl⟩
 have B1 : Below w.heap.size w w1 := hw1 ▸ bal (Below.refl _ _) _
 have H1 := H.out.call B1
 have HG := Lib.hid (callsIn_wide (n := 2).2 (get_any w1 b 0 base _ (rowsS L) id H1.tab))
 gi_wp2_with (first
  | (refine ⟨trivial, ?_⟩; gi_at_call 114; rw [← hw1]; refine HG.out.mono ?_; rw [HH.out, HP.out, place_eq]; rintro e w2 ⟨rfl, hb2⟩; have y2 := (hb2.cell (p := ⟨gt, p * 2 + 1, none⟩) (Nat.lt_of_lt_of_le hgt B1.size)).trans ((B1.cell (p := ⟨gt, p * 2 + 1, none⟩) hgt).trans c1))
  | (refine ⟨trivial, ?_⟩; gi_at_call 115; refine (held_in _ id x.g x.l.length _).mono ?_; rintro e w' ⟨rfl, rfl⟩))
 have B2 : Below w.heap.size w w2 := bgo B1 hb2
 have hs1 : w1.heap.size = w.heap.size + 1 := by rw [hw1]; simp
 have hs2 := hb2.size
 have r1 : w1.heap[w.heap.size]? = some (.cells #[.int .i64 0] 48 (0, 0)) := by rw [hw1]; exact heap_alloc_new w _
 have r2 := (hb2.block _ (by omega)).trans r1
 have H2 := H1.call hb2
 obtain ⟨w3, hw3⟩ : ∃ y, y = (w2.alloc (.cells #[.int .i64 id] 3)).alloc (.cells #[.slice (some ⟨x.g, 0, none⟩) x.l.length x.l.length] 108) := ⟨_, rfl⟩
 rw [← hw3]
 have B3 : Below w2.heap.size w2 w3 := hw3 ▸ bal (bal (Below.refl _ _) _) _
 have hsz : w3.heap.size = w2.heap.size + 2 := by rw [hw3]; simp
 have i3 : w3.heap[w2.heap.size]? = some (.cells #[.int .i64 id] 3 (0, 0)) := by rw [hw3]; exact (Below.heap_alloc _ _ _ (by simp)).trans (heap_alloc_new w2 _)
 have s3 : w3.heap[w2.heap.size + 1]? = some (.cells #[.slice (some ⟨x.g, 0, none⟩) x.l.length x.l.length] 108 (0, 0)) := by
  rw [hw3]
  have := heap_alloc_new (w2.alloc (.cells #[.int .i64 id] 3)) (.cells #[.slice (some ⟨x.g, 0, none⟩) x.l.length x.l.length] 108)
  rwa [show (w2.alloc (.cells #[.int .i64 id] 3)).heap.size = w2.heap.size + 1 by simp] at this
 have inv : DrI w b base _ L w2.heap.size x.g x.l.length id 0 w3 := ⟨rfl, (B3.block _ (by omega)).trans r2, i3, s3, by omega, H2.call B3, bgo B2 B3, by omega⟩
 have HW := Lib.hid H.out
 clear hw3 hw1 HG H1 H2 r1 r2 i3 s3 y2 hb2 B1 B2 B3 c1
 refine wpIn_range_px rfl (by decide) (gf := 126) (lb := #[.pointer (some ⟨w2.heap.size + 1, 0, none⟩), .pointer (some ⟨w2.heap.size, 0, none⟩)]) rfl trivial (enters_of Tryz.func126 (by kernel_rfl) rfl)
  (encs := fun k => #[(hdAt (heldL id 0 x.l) k).V]) (N := (heldL id 0 x.l).length) 46 (DrI w b base _ L w2.heap.size x.g x.l.length id) (DrX w w2.heap.size)
  (held1_px 46 1 (w2.heap.size + 1) w2.heap.size x.g x.l.length _ id x.l _ rfl hbx (fun k U hU => ⟨(cell_box hU.c).1, (cell_box hU.i).1, (hU.sl.blk x hmem).1⟩)) (fun _ => rfl) (by rw [hsz]; exact DrI.own) (fun c => by rw [hsz]; exact DrX.own c) inv
  (fun k => { tmps := #[.pointer (some ⟨b, 0, none⟩), .int .i64 id, undef, undef, .pointer (some ⟨w.heap.size, 0, none⟩), .pointer (some ⟨gt, p * 2 + 1, none⟩), .bool true, .pointer (some ⟨b, 0, none⟩), .bool false, .tuple #[.pointer (some ⟨gt, p * 2 + 1, none⟩), .bool true], .pointer (some ⟨b, 0, none⟩), .pointer (some ⟨b, 0, none⟩), .pointer (some ⟨b, 0, none⟩), .int .i64 id, .tuple #[.pointer (some ⟨gt, p * 2 + 1, none⟩), .bool true], .pointer (some ⟨gt, p * 2 + 1, none⟩), .bool true, .bool true, .bool false, .int .i64 id, .pointer (some ⟨gt, p * 2 + 1, none⟩), .pointer (some ⟨gt, p * 2 + 1, none⟩), x.v, .func (.func 126) #[] #[.pointer (some ⟨w2.heap.size + 1, 0, none⟩), .pointer (some ⟨w2.heap.size, 0, none⟩)], (hdAt (heldL id 0 x.l) k).V, undef, undef, undef, undef, undef], defers := [] }) ?hassign ?hbody ?hdone ?hstop
 case hassign =>
  intro l k W K hK
  gi_wp2
  refine cast (congrArg (fun a => K a W) ?_) hK
  simp
 case hbody =>
  rintro l k U hkN hU
  obtain ⟨r0, f0⟩ := cell_box hU.r0
  have hlt : w.heap.size < U.heap.size := (ags hU.r0).1
  have HU := Lib.hid hU
  clear hU
  gi_wp2
  exact ⟨⟨by simp, fun j o hj hl _ => (Go.heap_setCell_other _ _ _ _ (by simp; omega)).trans hl⟩, rfl, Go.heap_setCell_same _ _ _ _ _ _ HU.out.r0, by simpa using HU.out.s, HU.out.bl.setCell (Nat.le_refl _) _, HU.out.wc⟩
 case hdone =>
  rintro D U hD hU hK
  have hN : (heldL id 0 x.l).length = 0 := hU.k
  obtain ⟨r0, f0⟩ := cell_box hU.r0
  have hlt : w.heap.size < U.heap.size := (ags hU.r0).1
  have hDl : D < U.heap.size := (ags hK).1
  have hwc := hU.wc
  have hgw : ∀ y ∈ L, y.g < w.heap.size := fun y hy => HW.out.glt hy
  have HDR := Lib.hid (callsIn_wide (n := 2).2 (drop_yes U b 0 base _ (rowsS L) id hU.sl.tab HH.out))
  have HU := Lib.hid hU
  have hsz3 := hsz
  have hfin : ∀ (W' : World) (tv' : Value), TabAt W' b 0 base tv' (delR (rowsS L) id) → Only U W' b 0 (.slice (some ⟨gt, 0, none⟩) L.length ct) tv' →
    W'.heap[w.heap.size]? = some (.cells #[.int .i64 0] 48 (0, 0)) ∧ W'.heap[D]? = some (.deferred (some [])) ∧
    ∀ W2 : World, W2.os = W'.os → W2.tape = W'.tape → W2.output = W'.output → W2.heap.size = W'.heap.size → (∀ j, j ≠ w.heap.size → j ≠ D → W2.heap[j]? = W'.heap[j]?) → SlotsAt W2 b base tv' (delS L id) ∧ SOnly w W2 b (.slice (some ⟨gt, 0, none⟩) L.length ct) tv' L (delS L id) := by
   intro W' tv' t1 o1
   have hnD : (Value.slice (some ⟨gt, 0, none⟩) L.length ct).ownBlock ≠ some D := fun e => by
    have e2 : gt = D := Option.some.inj e
    omega
   have hnw : (Value.slice (some ⟨gt, 0, none⟩) L.length ct).ownBlock ≠ some w.heap.size := fun e => by
    have e2 : gt = w.heap.size := Option.some.inj e
    omega
   refine ⟨(o1.block _ hlt (by omega) hnw).trans HU.out.r0, (o1.block _ hDl (by omega) hnD).trans hK, fun W2 e1 e2 e3 e4 e5 => ?_⟩
   have t2 : TabAt W' b 0 base tv' (rowsS (delS L id)) := by rw [rowsS_del]; exact t1
   obtain ⟨q1, q2⟩ := HU.out.sl.table t2 o1 (fun y hy => (sub_delS L id).subset hy) (HU.out.sl.ap.sublist (sub_delS L id))
   have hfoot : ∀ k, tv'.ownBlock = some k → k ≠ w.heap.size ∧ k ≠ D := fun k hk => by
    rcases o1.foot with e | ⟨g, e, hg⟩
    ·rw [e] at hk
     have e2 : gt = k := Option.some.inj hk
     exact ⟨by omega, by omega⟩
    ·rw [e] at hk
     have e2 : g = k := Option.some.inj hk
     exact ⟨by omega, by omega⟩
   have hyl : ∀ y ∈ delS L id, y.g ≠ w.heap.size ∧ y.g ≠ D := fun y hy => by
    have := hgw y ((sub_delS L id).subset hy)
    exact ⟨by omega, by omega⟩
   refine ⟨⟨q1.tab.of (Nat.le_of_eq e4.symm) (World.cell?_of_block (e5 b (by omega) (by omega))) (World.frozen?_of_block (e5 b (by omega) (by omega))) (fun g hg => e5 g (hfoot g hg).1 (hfoot g hg).2), fun y hy => ⟨(e5 y.g (hyl y hy).1 (hyl y hy).2).trans (q1.blk y hy).1, (q1.blk y hy).2⟩, q1.ap, q1.nt, q1.bd⟩,
    ⟨e1.trans (q2.os.trans HU.out.bl.os), e2.trans (q2.tape.trans HU.out.bl.tape), e3.trans (q2.output.trans HU.out.bl.output), by rw [e4]; exact Nat.le_trans HU.out.bl.size q2.size, fun k hk p1 p2 p3 => (e5 k (by omega) (by omega)).trans ((q2.block k (by omega) p1 p2 p3).trans (HU.out.bl.block k hk)), fun k hk e => q2.foot k (by omega) e⟩⟩
  have HF := Lib.hid hfin
  have HK := Lib.hid hK
  clear hU hfin hgw
  gi_wp2_with (refine ⟨trivial, ?_⟩; gi_at_call 116; refine HDR.out.mono ?_; rintro e W' ⟨rfl, tv', t1, o1⟩; obtain ⟨p1, p2, p3⟩ := HF.out W' tv' t1 o1; have P2 := Lib.hid p2; have P3 := Lib.hid p3; have hzw := o1.size; clear t1 o1 p2 p3; obtain ⟨v0, vz⟩ := cell_box p1; have hlw : w.heap.size < W'.heap.size := (by omega))
  have hKd : (W'.setCell ⟨w.heap.size, 0, none⟩ (.int .i64 0)).heap[D]? = some (.deferred (some [])) := (Go.heap_setCell_other _ _ _ _ (by simp; omega)).trans P2.out
  refine ⟨by simp, .inl ⟨_, _, rfl, run_takeDeferred hKd, ?_⟩⟩
  have g0 : ((W'.setCell ⟨w.heap.size, 0, none⟩ (.int .i64 0)).putObj D (.deferred none)).cell? ⟨w.heap.size, 0, none⟩ = some (.int .i64 0) := (cell_of_block (World.putObj_heap_other (by omega))).trans (cell_box (Go.heap_setCell_same _ _ _ _ _ _ p1)).1
  refine ⟨.int .i64 0, by simp [results, Tryz.results94, go_sem, g0], .inr ⟨hN, rfl, tv', P3.out _ rfl rfl rfl (by simp [World.putObj]) (fun j h1 h2 => (World.putObj_heap_other h2).trans (Go.heap_setCell_other _ _ _ _ (by simpa using h1)))⟩⟩
 case hstop =>
  rintro D c k U hD hkN ⟨rfl, r0, hs, hBw, hwc⟩ hK
  have h4 := (cell_box r0).1
  gi_wp2
  refine ⟨by simp, .inl ⟨_, _, rfl, run_takeDeferred hK, ?_⟩⟩
  have g0 : ∀ o : Obj, (U.putObj D o).cell? ⟨w.heap.size, 0, none⟩ = some (.int .i64 16) := fun o => (cell_of_block (World.putObj_heap_other (by omega))).trans h4
  exact ⟨.int .i64 16, by simp [results, Tryz.results94, go_sem, g0], .inl ⟨by omega, rfl, hBw.trans (belowK_b (w := w) (Nat.le_refl _) U D _ _ (by omega) hK rfl rfl)⟩⟩
theorem sdrop_yes (w : World) (b base : Nat) (tv : Value) (L : List Sn) (id : Int) (x : Sn) (h : SlotsAt w b base tv L) (hx : L[posS L id]? = some x) (hid : x.id = id) :
  Calls Tryz.prog 94 #[.pointer (some ⟨b, 0, none⟩), .int .i64 id] w (DropPost w b base tv L id (heldL id 0 x.l).length) := callsIn_wide.1 (drop_in w b base tv L id x h hx hid)
end TabS
end
end Go.Proofs.YtchjfeafkmpmbaaGreatDoor
