import Derived.Test.YtchjfeafkmpmbaaGreatDoorQke
import Derived.Deep.RegionHeld3
import Derived.Deep.Cut
import Derived.BigRegion
import Derived.Deep.RegionWith
import Derived.Maps.Keyed
import Derived.Maps.Own
import Derived.DeepKeys4
import Derived.Maps.OwnSet
import Derived.Maps.OwnIn
import Derived.Maps.Views
import Derived.Lib.SmallJoins
namespace Go.Proofs.YtchjfeafkmpmbaaGreatDoor
set_option linter.unusedVariables false
set_option linter.unusedSimpArgs false
set_option maxRecDepth 100000
set_option maxHeartbeats 8000000
open Lib (hid)
section
open Go.ChangeShapes Go.WideShapes Go.ChangeAt Go.RowKit Go.Shelf
attribute [local go_sem] Oper.semAt_some
namespace TabS
theorem sdrop_no (w : World) (b base : Nat) (tv : Value) (L : List Sn) (id : Int) (h : SlotsAt w b base tv L) (hh : hasS L id = false) :
  Calls Tryz.prog 94 #[.pointer (some ⟨b, 0, none⟩), .int .i64 id] w fun e w' => e = .returned (.int .i64 2) ∧ Below w.heap.size w w' := by
 have H := Lib.hid (h.call (bal (Below.refl w.heap.size w) (.cells #[.int .i64 0] 48))).tab
 have HH := Lib.hid (show hasR (rowsS L) id = false from hh)
 clear h hh
 go_enter Tryz.func94, Tryz.ntmps94
 go_wp2_with (go_at_call 114; refine (get_any _ b 0 base tv (rowsS L) id H.out).mono ?_; rw [HH.out]; rintro e w1 ⟨rfl, hb1⟩; obtain ⟨hc1, hf1⟩ := bcell hb1; have hz1 := hb1.size; have hz2 : w.heap.size < w1.heap.size := (by simp at hz1; omega))
 exact bodyPost_ret (v := .int .i64 2) (by simp [results, Tryz.results94, go_sem, hc1, hf1, hz2]) rfl ⟨rfl, (bgo (bal (Below.refl _ _) _) hb1).setCell (Nat.le_refl _) _⟩
structure DrI (w : World) (b base : Nat) (tv : Value) (L : List Sn) (C g n : Nat) (id : Int) (k : Nat) (U : World) : Prop where
 k : k = 0
 r0 : U.heap[w.heap.size]? = some (.cells #[.int .i64 0] 48 (0, 0))
 i : U.heap[C]? = some (.cells #[.int .i64 id] 3 (0, 0))
 c : U.heap[C + 1]? = some (.cells #[.slice (some ⟨g, 0, none⟩) n n] 108 (0, 0))
 s : C + 2 ≤ U.heap.size
 sl : SlotsAt U b base tv L
 bl : Below w.heap.size w U
 wc : w.heap.size < C
structure DrX (w : World) (C : Nat) (c : Code) (k : Nat) (U : World) : Prop where
 c : c = .ret
 r0 : U.heap[w.heap.size]? = some (.cells #[.int .i64 16] 48 (0, 0))
 s : C + 2 ≤ U.heap.size
 bl : Below w.heap.size w U
 wc : w.heap.size < C
theorem belowC {w A B : World} {N : Nat} {row : Option Nat} (h : Below w.heap.size w A) (hw : w.heap.size ≤ N) (hg : A.grownBy B row) (hr : ∀ r, row = some r → N ≤ r) : Below w.heap.size w B :=
 ⟨hg.os.trans h.os, hg.tape.trans h.tape, hg.output.trans h.output, Nat.le_trans h.size hg.size, fun k hk => (hg.block k (Nat.lt_of_lt_of_le hk h.size) (fun e => by have := hr k e.symm; omega)).trans (h.block k hk)⟩
theorem SlotsAt.grown {A B : World} {b base : Nat} {tv : Value} {L : List Sn} {row : Option Nat} (h : SlotsAt A b base tv L) (hg : A.grownBy B row) (hr : ∀ r, row = some r → ∃ o : Obj, A.heap[r]? = some o ∧ o.isCells = false) : SlotsAt B b base tv L := by
 have hb : ∀ (j : Nat) (v : Value), A.cell? ⟨b, j, none⟩ = some v → B.heap[b]? = A.heap[b]? := fun j v hv => hg.block b h.lt (fun e => by
  obtain ⟨o, ho, hc⟩ := hr b e.symm
  unfold World.cell? at hv
  rw [show A.heap[(⟨b, j, none⟩ : Addr).block]? = some o from ho] at hv
  cases o <;> simp_all [Obj.isCells])
 have e0 := hb 0 _ h.tab.cell
 refine ⟨h.tab.of hg.size (World.cell?_of_block e0) (World.frozen?_of_block e0) (fun g q => ?_), fun x hx => ⟨?_, (h.blk x hx).2⟩, h.ap, h.nt, h.bd⟩
 ·refine hg.block g (h.tab.own q).2 (fun e => ?_)
  obtain ⟨o, ho, hc⟩ := hr g e.symm
  rcases h.tab.row.2 with ⟨h1, _⟩ | ⟨g', cap, cur, h1, _, q2, _⟩
  ·rw [h1] at q; cases q
  ·rw [h1] at q; cases q; rw [q2] at ho; cases ho; cases hc
 ·refine (hg.block x.g (h.glt hx) (fun e => ?_)).trans (h.blk x hx).1
  obtain ⟨o, ho, hc⟩ := hr x.g e.symm
  rw [(h.blk x hx).1] at ho
  cases ho
  cases hc
theorem DrI.own {w : World} {b base C g n : Nat} {tv : Value} {L : List Sn} {id : Int} : OwnFrom (C + 2) (DrI w b base tv L C g n id) := by
 intro s A B row h hg hr
 have e : ∀ k, k < C + 2 → B.heap[k]? = A.heap[k]? := fun k hk => hg.block k (Nat.lt_of_lt_of_le hk h.s) (fun e => by have := (hr k e.symm).1; omega)
 have hwc := h.wc
 exact ⟨h.k, (e _ (by omega)).trans h.r0, (e _ (by omega)).trans h.i, (e _ (by omega)).trans h.c, Nat.le_trans h.s hg.size, h.sl.grown hg (fun r q => (hr r q).2), belowC h.bl (by omega) hg (fun r q => (hr r q).1), hwc⟩
theorem DrX.own {w : World} {C : Nat} (c : Code) : OwnFrom (C + 2) (DrX w C c) := by
 intro s A B row h hg hr
 have e : ∀ k, k < C + 2 → B.heap[k]? = A.heap[k]? := fun k hk => hg.block k (Nat.lt_of_lt_of_le hk h.s) (fun e => by have := (hr k e.symm).1; omega)
 have hwc := h.wc
 exact ⟨h.c, (e _ (by omega)).trans h.r0, Nat.le_trans h.s hg.size, belowC h.bl (by omega) hg (fun r q => (hr r q).1), hwc⟩
def DropPost (w : World) (b base : Nat) (tv : Value) (L : List Sn) (id : Int) (N : Nat) (e : Ending) (w' : World) : Prop :=
 (N ≠ 0 ∧ e = .returned (.int .i64 16) ∧ Below w.heap.size w w') ∨ (N = 0 ∧ e = .returned (.int .i64 0) ∧ ∃ tv', SlotsAt w' b base tv' (delS L id) ∧ SOnly w w' b tv tv' L (delS L id))
theorem drop_in (w : World) (b base : Nat) (tv : Value) (L : List Sn) (id : Int) (x : Sn) (h : SlotsAt w b base tv L) (hx : L[posS L id]? = some x) (hid : x.id = id) :
  CallsIn Fence.wide 3 Tryz.prog 94 #[.pointer (some ⟨b, 0, none⟩), .int .i64 id] w (DropPost w b base tv L id (heldL id 0 x.l).length) := by
 have hh : hasS L id = true := (hasS_at h).2 ⟨x, hx, hid⟩
 obtain ⟨p, hp⟩ : ∃ p, posR (rowsS L) id = p := ⟨_, rfl⟩
 have HH := Lib.hid (show hasR (rowsS L) id = true from hh)
 have HP := Lib.hid hp
 have HX := Lib.hid hx
 have hmem := List.mem_of_getElem? hx
 have hbx := h.bd x hmem
 obtain ⟨gt, ct, rfl, hgt, -, c1⟩ := h.place hx
 rw [show posS L id = p from hp] at c1
 have H := Lib.hid h
 have hbl := h.lt
 clear hh hp h hx
 refine callsIn_of_wp_marks Tryz.func94 rfl trivial ?_ rfl
 simp only [Tryz.ntmps94, List.size_toArray, List.length_cons, List.length_nil, Nat.reduceAdd, Nat.reduceSub, Array.replicate_succ, Array.replicate_zero, List.push_toArray, List.append_toArray, List.nil_append, List.cons_append]
 obtain ⟨w1, hw1⟩ : ∃ y, y = w.alloc (.cells #[.int .i64 0] 48) := ⟨_, rfl⟩
 have B1 : Below w.heap.size w w1 := hw1 ▸ bal (Below.refl _ _) _
 have H1 := H.out.call B1
 have HG := Lib.hid (callsIn_wide (n := 2).2 (get_any w1 b 0 base _ (rowsS L) id H1.tab))
 gi_wp2_with (first
  | (refine ⟨trivial, ?_⟩; gi_at_call 114; rw [← hw1]; refine HG.out.mono ?_; rw [HH.out, HP.out, place_eq]; rintro e w2 ⟨rfl, hb2⟩; have y2 := (hb2.cell (p := ⟨gt, p * 2 + 1, none⟩) (Nat.lt_of_lt_of_le hgt B1.size)).trans ((B1.cell (p := ⟨gt, p * 2 + 1, none⟩) hgt).trans c1))
  | (refine ⟨trivial, ?_⟩; gi_at_call 115; refine (held_in _ id x.g x.l.length _).mono ?_; rintro e w' ⟨rfl, rfl⟩))
 have B2 : Below w.heap.size w w2 := bgo B1 hb2
 have hs1 : w1.heap.size = w.heap.size + 1 := by rw [hw1]; simp
 have hs2 := hb2.size
 have r1 : w1.heap[w.heap.size]? = some (.cells #[.int .i64 0] 48 (0, 0)) := by rw [hw1]; exact heap_alloc_new w _
 have r2 := (hb2.block _ (by omega)).trans r1
 have H2 := H1.call hb2
 obtain ⟨w3, hw3⟩ : ∃ y, y = (w2.alloc (.cells #[.int .i64 id] 3)).alloc (.cells #[.slice (some ⟨x.g, 0, none⟩) x.l.length x.l.length] 108) := ⟨_, rfl⟩
 rw [← hw3]
 have B3 : Below w2.heap.size w2 w3 := hw3 ▸ bal (bal (Below.refl _ _) _) _
 have hsz : w3.heap.size = w2.heap.size + 2 := by rw [hw3]; simp
 have i3 : w3.heap[w2.heap.size]? = some (.cells #[.int .i64 id] 3 (0, 0)) := by rw [hw3]; exact (Below.heap_alloc _ _ _ (by simp)).trans (heap_alloc_new w2 _)
 have s3 : w3.heap[w2.heap.size + 1]? = some (.cells #[.slice (some ⟨x.g, 0, none⟩) x.l.length x.l.length] 108 (0, 0)) := by
  rw [hw3]
  have := heap_alloc_new (w2.alloc (.cells #[.int .i64 id] 3)) (.cells #[.slice (some ⟨x.g, 0, none⟩) x.l.length x.l.length] 108)
  rwa [show (w2.alloc (.cells #[.int .i64 id] 3)).heap.size = w2.heap.size + 1 by simp] at this
 have inv : DrI w b base _ L w2.heap.size x.g x.l.length id 0 w3 := ⟨rfl, (B3.block _ (by omega)).trans r2, i3, s3, by omega, H2.call B3, bgo B2 B3, by omega⟩
 have HW := Lib.hid H.out
 clear hw3 hw1 HG H1 H2 r1 r2 i3 s3 y2 hb2 B1 B2 B3 c1
 refine wpIn_range_px rfl (by decide) (gf := 126) (lb := #[.pointer (some ⟨w2.heap.size + 1, 0, none⟩), .pointer (some ⟨w2.heap.size, 0, none⟩)]) rfl trivial (enters_of Tryz.func126 (by kernel_rfl) rfl)
  (encs := fun k => #[(hdAt (heldL id 0 x.l) k).V]) (N := (heldL id 0 x.l).length) 46 (DrI w b base _ L w2.heap.size x.g x.l.length id) (DrX w w2.heap.size)
  (held1_px 46 1 (w2.heap.size + 1) w2.heap.size x.g x.l.length _ id x.l _ rfl hbx (fun k U hU => ⟨(cell_box hU.c).1, (cell_box hU.i).1, (hU.sl.blk x hmem).1⟩)) (fun _ => rfl) (by rw [hsz]; exact DrI.own) (fun c => by rw [hsz]; exact DrX.own c) inv
  (fun k => { tmps := #[.pointer (some ⟨b, 0, none⟩), .int .i64 id, undef, undef, .pointer (some ⟨w.heap.size, 0, none⟩), .pointer (some ⟨gt, p * 2 + 1, none⟩), .bool true, .pointer (some ⟨b, 0, none⟩), .bool false, .tuple #[.pointer (some ⟨gt, p * 2 + 1, none⟩), .bool true], .pointer (some ⟨b, 0, none⟩), .pointer (some ⟨b, 0, none⟩), .pointer (some ⟨b, 0, none⟩), .int .i64 id, .tuple #[.pointer (some ⟨gt, p * 2 + 1, none⟩), .bool true], .pointer (some ⟨gt, p * 2 + 1, none⟩), .bool true, .bool true, .bool false, .int .i64 id, .pointer (some ⟨gt, p * 2 + 1, none⟩), .pointer (some ⟨gt, p * 2 + 1, none⟩), x.v, .func (.func 126) #[] #[.pointer (some ⟨w2.heap.size + 1, 0, none⟩), .pointer (some ⟨w2.heap.size, 0, none⟩)], (hdAt (heldL id 0 x.l) k).V, undef, undef, undef, undef, undef], defers := [] }) ?hassign ?hbody ?hdone ?hstop
 case hassign =>
  intro l k W K hK
  gi_wp2
  refine cast (congrArg (fun a => K a W) ?_) hK
  simp
 case hbody =>
  rintro l k U hkN hU
  obtain ⟨r0, f0⟩ := cell_box hU.r0
  have hlt : w.heap.size < U.heap.size := (ags hU.r0).1
  have HU := Lib.hid hU
  clear hU
  gi_wp2
  exact ⟨⟨by simp, fun j o hj hl _ => (Go.heap_setCell_other _ _ _ _ (by simp; omega)).trans hl⟩, rfl, Go.heap_setCell_same _ _ _ _ _ _ HU.out.r0, by simpa using HU.out.s, HU.out.bl.setCell (Nat.le_refl _) _, HU.out.wc⟩
 case hdone =>
  rintro D U hD hU hK
  have hN : (heldL id 0 x.l).length = 0 := hU.k
  obtain ⟨r0, f0⟩ := cell_box hU.r0
  have hlt : w.heap.size < U.heap.size := (ags hU.r0).1
  have hDl : D < U.heap.size := (ags hK).1
  have hwc := hU.wc
  have hgw : ∀ y ∈ L, y.g < w.heap.size := fun y hy => HW.out.glt hy
  have HDR := Lib.hid (callsIn_wide (n := 2).2 (drop_yes U b 0 base _ (rowsS L) id hU.sl.tab HH.out))
  have HU := Lib.hid hU
  have hsz3 := hsz
  have hfin : ∀ (W' : World) (tv' : Value), TabAt W' b 0 base tv' (delR (rowsS L) id) → Only U W' b 0 (.slice (some ⟨gt, 0, none⟩) L.length ct) tv' →
    W'.heap[w.heap.size]? = some (.cells #[.int .i64 0] 48 (0, 0)) ∧ W'.heap[D]? = some (.deferred (some [])) ∧
    ∀ W2 : World, W2.os = W'.os → W2.tape = W'.tape → W2.output = W'.output → W2.heap.size = W'.heap.size → (∀ j, j ≠ w.heap.size → j ≠ D → W2.heap[j]? = W'.heap[j]?) → SlotsAt W2 b base tv' (delS L id) ∧ SOnly w W2 b (.slice (some ⟨gt, 0, none⟩) L.length ct) tv' L (delS L id) := by
   intro W' tv' t1 o1
   have hnD : (Value.slice (some ⟨gt, 0, none⟩) L.length ct).ownBlock ≠ some D := fun e => by
    have e2 : gt = D := Option.some.inj e
    omega
   have hnw : (Value.slice (some ⟨gt, 0, none⟩) L.length ct).ownBlock ≠ some w.heap.size := fun e => by
    have e2 : gt = w.heap.size := Option.some.inj e
    omega
   refine ⟨(o1.block _ hlt (by omega) hnw).trans HU.out.r0, (o1.block _ hDl (by omega) hnD).trans hK, fun W2 e1 e2 e3 e4 e5 => ?_⟩
   have t2 : TabAt W' b 0 base tv' (rowsS (delS L id)) := by rw [rowsS_del]; exact t1
   obtain ⟨q1, q2⟩ := HU.out.sl.table t2 o1 (fun y hy => (sub_delS L id).subset hy) (HU.out.sl.ap.sublist (sub_delS L id))
   have hfoot : ∀ k, tv'.ownBlock = some k → k ≠ w.heap.size ∧ k ≠ D := fun k hk => by
    rcases o1.foot with e | ⟨g, e, hg⟩
    ·rw [e] at hk
     have e2 : gt = k := Option.some.inj hk
     exact ⟨by omega, by omega⟩
    ·rw [e] at hk
     have e2 : g = k := Option.some.inj hk
     exact ⟨by omega, by omega⟩
   have hyl : ∀ y ∈ delS L id, y.g ≠ w.heap.size ∧ y.g ≠ D := fun y hy => by
    have := hgw y ((sub_delS L id).subset hy)
    exact ⟨by omega, by omega⟩
   refine ⟨⟨q1.tab.of (Nat.le_of_eq e4.symm) (World.cell?_of_block (e5 b (by omega) (by omega))) (World.frozen?_of_block (e5 b (by omega) (by omega))) (fun g hg => e5 g (hfoot g hg).1 (hfoot g hg).2), fun y hy => ⟨(e5 y.g (hyl y hy).1 (hyl y hy).2).trans (q1.blk y hy).1, (q1.blk y hy).2⟩, q1.ap, q1.nt, q1.bd⟩,
    ⟨e1.trans (q2.os.trans HU.out.bl.os), e2.trans (q2.tape.trans HU.out.bl.tape), e3.trans (q2.output.trans HU.out.bl.output), by rw [e4]; exact Nat.le_trans HU.out.bl.size q2.size, fun k hk p1 p2 p3 => (e5 k (by omega) (by omega)).trans ((q2.block k (by omega) p1 p2 p3).trans (HU.out.bl.block k hk)), fun k hk e => q2.foot k (by omega) e⟩⟩
  have HF := Lib.hid hfin
  have HK := Lib.hid hK
  clear hU hfin hgw
  gi_wp2_with (refine ⟨trivial, ?_⟩; gi_at_call 116; refine HDR.out.mono ?_; rintro e W' ⟨rfl, tv', t1, o1⟩; obtain ⟨p1, p2, p3⟩ := HF.out W' tv' t1 o1; have P2 := Lib.hid p2; have P3 := Lib.hid p3; have hzw := o1.size; clear t1 o1 p2 p3; obtain ⟨v0, vz⟩ := cell_box p1; have hlw : w.heap.size < W'.heap.size := (by omega))
  have hKd : (W'.setCell ⟨w.heap.size, 0, none⟩ (.int .i64 0)).heap[D]? = some (.deferred (some [])) := (Go.heap_setCell_other _ _ _ _ (by simp; omega)).trans P2.out
  refine ⟨by simp, .inl ⟨_, _, rfl, run_takeDeferred hKd, ?_⟩⟩
  have g0 : ((W'.setCell ⟨w.heap.size, 0, none⟩ (.int .i64 0)).putObj D (.deferred none)).cell? ⟨w.heap.size, 0, none⟩ = some (.int .i64 0) := (cell_of_block (World.putObj_heap_other (by omega))).trans (cell_box (Go.heap_setCell_same _ _ _ _ _ _ p1)).1
  refine ⟨.int .i64 0, by simp [results, Tryz.results94, go_sem, g0], .inr ⟨hN, rfl, tv', P3.out _ rfl rfl rfl (by simp [World.putObj]) (fun j h1 h2 => (World.putObj_heap_other h2).trans (Go.heap_setCell_other _ _ _ _ (by simpa using h1)))⟩⟩
 case hstop =>
  rintro D c k U hD hkN ⟨rfl, r0, hs, hBw, hwc⟩ hK
  have h4 := (cell_box r0).1
  gi_wp2
  refine ⟨by simp, .inl ⟨_, _, rfl, run_takeDeferred hK, ?_⟩⟩
  have g0 : ∀ o : Obj, (U.putObj D o).cell? ⟨w.heap.size, 0, none⟩ = some (.int .i64 16) := fun o => (cell_of_block (World.putObj_heap_other (by omega))).trans h4
  exact ⟨.int .i64 16, by simp [results, Tryz.results94, go_sem, g0], .inl ⟨by omega, rfl, hBw.trans (belowK_b (w := w) (Nat.le_refl _) U D _ _ (by omega) hK rfl rfl)⟩⟩
theorem sdrop_yes (w : World) (b base : Nat) (tv : Value) (L : List Sn) (id : Int) (x : Sn) (h : SlotsAt w b base tv L) (hx : L[posS L id]? = some x) (hid : x.id = id) :
  Calls Tryz.prog 94 #[.pointer (some ⟨b, 0, none⟩), .int .i64 id] w (DropPost w b base tv L id (heldL id 0 x.l).length) := callsIn_wide.1 (drop_in w b base tv L id x h hx hid)
end TabS
end
section
section
open Go.ChangeShapes Go.WideShapes Go.ChangeAt Go.RowKit Go.Shelf
namespace TabS
def abS (x : Sn) : Int × List Cp := (x.id, x.l)
def SameS (L M : List Sn) : Prop := L.map abS = M.map abS
theorem SameS.len {L M : List Sn} (h : SameS L M) : L.length = M.length := by
 have := congrArg List.length h
 simpa using this
theorem SameS.get {L M : List Sn} (h : SameS L M) {k : Nat} {x : Sn} (hx : L[k]? = some x) : ∃ y, M[k]? = some y ∧ y.id = x.id ∧ y.l = x.l := by
 have e : (L.map abS)[k]? = (M.map abS)[k]? := by rw [show L.map abS = M.map abS from h]
 rw [List.getElem?_map, List.getElem?_map, hx] at e
 cases hy : M[k]? with
 | none => rw [hy] at e; cases e
 | some y =>
  rw [hy] at e
  simp [abS] at e
  exact ⟨y, rfl, e.1.symm, e.2.symm⟩
theorem SameS.symm {L M : List Sn} (h : SameS L M) : SameS M L := Eq.symm h
theorem SameS.keys {L M : List Sn} (h : SameS L M) : (rowsS L).map Prod.fst = (rowsS M).map Prod.fst := by
 have e : ∀ N : List Sn, (rowsS N).map Prod.fst = (N.map abS).map Prod.fst := fun N => by simp [rowsS, rowS, abS, Function.comp_def]
 rw [e, e, show L.map abS = M.map abS from h]
theorem SameS.pos {L M : List Sn} (h : SameS L M) (id : Int) : posS L id = posS M id := by
 have e : ∀ N : List Sn, posS N id = ((rowsS N).map Prod.fst).countP (fun i => decide (i < id)) := fun N => by
  unfold posS posR
  rw [List.countP_map]
  rfl
 rw [e, e, h.keys]
theorem SameS.has {L M : List Sn} (h : SameS L M) (id : Int) : hasS L id = hasS M id := by
 have e : ∀ N : List Sn, hasS N id = ((rowsS N).map Prod.fst).any (fun i => decide (i = id)) := fun N => by
  unfold hasS hasR
  rw [List.any_map]
  rfl
 rw [e, e, h.keys]
theorem SameS.held {L M : List Sn} (h : SameS L M) : heldA L = heldA M := by
 have e : ∀ N : List Sn, heldA N = (N.map abS).flatMap fun p => heldL p.1 0 p.2 := fun N => by
  unfold heldA
  rw [List.flatMap_map]
  rfl
 rw [e, e, show L.map abS = M.map abS from h]
theorem SameS.asc {L M : List Sn} (h : SameS L M) (hA : Asc (rowsS L)) : Asc (rowsS M) := by
 unfold Asc at *
 rw [← h.keys]
 exact hA
theorem SameS.ins {L M : List Sn} (h : SameS L M) (id : Int) (g g' : Nat) (l : List Cp) : SameS (insS L ⟨id, g, l⟩) (insS M ⟨id, g', l⟩) := by
 unfold SameS insS
 rw [show posS L (⟨id, g, l⟩ : Sn).id = posS M (⟨id, g', l⟩ : Sn).id from h.pos id]
 simp only [List.map_append, List.map_cons, List.map_take, List.map_drop]
 rw [show L.map abS = M.map abS from h]
 rfl
theorem SameS.del {L M : List Sn} (h : SameS L M) (k : Nat) : SameS (L.take k ++ L.drop (k + 1)) (M.take k ++ M.drop (k + 1)) := by
 unfold SameS
 simp only [List.map_append, List.map_take, List.map_drop]
 rw [show L.map abS = M.map abS from h]
theorem SameS.put {L M : List Sn} (h : SameS L M) {k : Nat} {x y : Sn} (hi : y.id = x.id) (hl : y.l = x.l) (i : Nat) (c : Cp) : SameS (putS L k x i c) (putS M k y i c) := by
 unfold SameS putS
 rw [List.map_set, List.map_set, show L.map abS = M.map abS from h]
 simp [abS, hi, hl]
theorem no_of {M : List Sn} {id : Int} (hh : hasS M id = false) : ∀ x ∈ M, x.id ≠ id := by
 intro x hx e
 have : hasS M id = true := by
  unfold hasS hasR
  rw [List.any_eq_true]
  exact ⟨rowS x, List.mem_map.2 ⟨x, hx, rfl⟩, decide_eq_true e⟩
 rw [hh] at this
 cases this
theorem first_of {L M : List Sn} (h : SameS L M) (hA : Asc (rowsS L)) {id : Int} {x : Sn} (hx : L[posS L id]? = some x) (hid : x.id = id) : ∃ y, FirstS M id (posS L id) y ∧ y.id = x.id ∧ y.l = x.l := by
 obtain ⟨y, hy, h1, h2⟩ := h.get hx
 refine ⟨y, ⟨hy, by rw [h1, hid], fun i z hi hz => ?_⟩, h1, h2⟩
 have hlt := (posR_facts (k := id) (h.asc hA)).1 i (rowS z) (by rw [show posR (rowsS M) id = posS M id from rfl, ← h.pos]; exact hi) (by rw [rowsS_get, hz]; rfl)
 have : z.id < id := hlt
 omega
def FootP (b : Nat) (tv : Value) (L : List Sn) (k : Nat) : Prop := k = b ∨ tv.ownBlock = some k ∨ ∃ x ∈ L, x.g = k
structure Two (W w : World) (b base : Nat) (tv : Value) (L : List Sn) (rb rbase : Nat) (v : Value) (M : List Sn) (S : Nat → Prop) : Prop where
 pk : SlotsAt w b base tv L
 rf : RefS w rb rbase v M
 lo : W.heap.size ≤ b
 lr : W.heap.size ≤ rb
 bl : Below W.heap.size W w
 ap : ∀ k, FootP b tv L k → ¬ FootP rb v M k
 bs : ∀ k, S k → k < w.heap.size ∧ ¬ FootP b tv L k ∧ ¬ FootP rb v M k
theorem foot_ltP {w : World} {b base : Nat} {tv : Value} {L : List Sn} (h : SlotsAt w b base tv L) {k : Nat} (hk : FootP b tv L k) : k < w.heap.size := by
 rcases hk with rfl | e | ⟨x, hx, rfl⟩
 ·exact h.lt
 ·exact (h.tab.own e).2
 ·exact h.glt hx
theorem foot_ltR {w : World} {rb base : Nat} {v : Value} {M : List Sn} (h : RefS w rb base v M) {k : Nat} (hk : FootP rb v M k) : k < w.heap.size := by
 rcases hk with rfl | e | ⟨x, hx, rfl⟩
 ·exact Nat.lt_of_lt_of_le h.lt h.bs
 ·exact (h.row.lt k e).2
 ·exact h.glt hx
theorem foot_loP {w : World} {b base : Nat} {tv : Value} {L : List Sn} (h : SlotsAt w b base tv L) {k : Nat} (hk : FootP b tv L k) : b ≤ k := by
 have := h.tab.ne
 rcases hk with rfl | e | ⟨x, hx, rfl⟩
 ·exact Nat.le_refl _
 ·have := (h.tab.own e).1; omega
 ·have := (h.blk x hx).2; omega
theorem foot_loR {w : World} {rb base : Nat} {v : Value} {M : List Sn} (h : RefS w rb base v M) {k : Nat} (hk : FootP rb v M k) : rb ≤ k := by
 have := h.lt
 rcases hk with rfl | e | ⟨x, hx, rfl⟩
 ·exact Nat.le_refl _
 ·have := (h.row.lt k e).1; omega
 ·have := (h.cb x hx).2; omega
theorem RefS.of {w w' : World} {rb base : Nat} {v : Value} {M : List Sn} (h : RefS w rb base v M) (hs : w.heap.size ≤ w'.heap.size) (hb : ∀ k, FootP rb v M k → w'.heap[k]? = w.heap[k]?) : RefS w' rb base v M :=
 ⟨(hb rb (.inl rfl)).trans h.blk, row_of_block h.row (fun g hg => hb g (.inr (.inl hg))), h.lt, Nat.le_trans h.bs hs, fun x hx => ⟨(hb x.g (.inr (.inr ⟨x, hx, rfl⟩))).trans (h.cb x hx).1, (h.cb x hx).2⟩, h.ap, h.nt, h.bd⟩
theorem SlotsAt.of {w w' : World} {b base : Nat} {tv : Value} {L : List Sn} (h : SlotsAt w b base tv L) (hs : w.heap.size ≤ w'.heap.size) (hb : ∀ k, FootP b tv L k → w'.heap[k]? = w.heap[k]?) : SlotsAt w' b base tv L :=
 ⟨h.tab.of hs (World.cell?_of_block (hb b (.inl rfl))) (World.frozen?_of_block (hb b (.inl rfl))) (fun g hg => hb g (.inr (.inl hg))), fun x hx => ⟨(hb x.g (.inr (.inr ⟨x, hx, rfl⟩))).trans (h.blk x hx).1, (h.blk x hx).2⟩, h.ap, h.nt, h.bd⟩
theorem Two.call {W w w' : World} {b base : Nat} {tv : Value} {L : List Sn} {rb rbase : Nat} {v : Value} {M : List Sn} {S : Nat → Prop} (h : Two W w b base tv L rb rbase v M S) (hb : Below w.heap.size w w') : Two W w' b base tv L rb rbase v M S :=
 ⟨h.pk.call hb, h.rf.call hb, h.lo, h.lr, h.bl.trans (hb.mono h.bl.size), h.ap, fun k hk => ⟨Nat.lt_of_lt_of_le (h.bs k hk).1 hb.size, (h.bs k hk).2⟩⟩
theorem Two.actP {W w w' : World} {b base : Nat} {tv tv' : Value} {L L' : List Sn} {rb rbase : Nat} {v : Value} {M : List Sn} {S : Nat → Prop} (h : Two W w b base tv L rb rbase v M S) (hA : SlotsAt w' b base tv' L') (hO : SOnly w w' b tv tv' L L') : Two W w' b base tv' L' rb rbase v M S ∧ SameK S w w' := by
 have hk : ∀ k, k < w.heap.size → ¬ FootP b tv L k → w'.heap[k]? = w.heap[k]? := fun k hl hn => hO.block k hl (fun e => hn (.inl e)) (fun e => hn (.inr (.inl e))) (fun x hx e => hn (.inr (.inr ⟨x, hx, e⟩)))
 have hf : ∀ k, k < w.heap.size → FootP b tv' L' k → FootP b tv L k := fun k hl hk => by
  rcases hk with e | e
  ·exact .inl e
  ·exact .inr (hO.foot k hl e)
 refine ⟨⟨hA, h.rf.of hO.size (fun k q => hk k (foot_ltR h.rf q) (fun p => h.ap k p q)), h.lo, h.lr, ⟨hO.os.trans h.bl.os, hO.tape.trans h.bl.tape, hO.output.trans h.bl.output, Nat.le_trans h.bl.size hO.size, fun k hl => (hk k (by have := h.bl.size; omega) (fun p => by have := foot_loP h.pk p; have := h.lo; omega)).trans (h.bl.block k hl)⟩, fun k p q => ?_, fun k hs => ?_⟩, fun k hs => hk k (h.bs k hs).1 (h.bs k hs).2.1⟩
 ·exact h.ap k (hf k (foot_ltR h.rf q) p) q
 ·exact ⟨Nat.lt_of_lt_of_le (h.bs k hs).1 hO.size, fun p => (h.bs k hs).2.1 (hf k (h.bs k hs).1 p), (h.bs k hs).2.2⟩
theorem Two.actR {W w w' : World} {b base : Nat} {tv : Value} {L : List Sn} {rb rbase : Nat} {v v' : Value} {M M' : List Sn} {S : Nat → Prop} (h : Two W w b base tv L rb rbase v M S) (hA : RefS w' rb rbase v' M') (hO : OnlyS w w' rb v v' M M') : Two W w' b base tv L rb rbase v' M' S ∧ SameK S w w' := by
 have hk : ∀ k, k < w.heap.size → ¬ FootP rb v M k → w'.heap[k]? = w.heap[k]? := fun k hl hn => hO.block k hl (fun e => hn (.inl e)) (fun e => hn (.inr (.inl e))) (fun x hx e => hn (.inr (.inr ⟨x, hx, e⟩)))
 have hf : ∀ k, k < w.heap.size → FootP rb v' M' k → FootP rb v M k := fun k hl hk => by
  rcases hk with e | e
  ·exact .inl e
  ·exact .inr (hO.foot k hl e)
 refine ⟨⟨h.pk.of hO.size (fun k q => hk k (foot_ltP h.pk q) (fun p => h.ap k q p)), hA, h.lo, h.lr, ⟨hO.os.trans h.bl.os, hO.tape.trans h.bl.tape, hO.output.trans h.bl.output, Nat.le_trans h.bl.size hO.size, fun k hl => (hk k (by have := h.bl.size; omega) (fun p => by have := foot_loR h.rf p; have := h.lr; omega)).trans (h.bl.block k hl)⟩, fun k p q => ?_, fun k hs => ?_⟩, fun k hs => hk k (h.bs k hs).1 (h.bs k hs).2.2⟩
 ·exact h.ap k p (hf k (foot_ltP h.pk p) q)
 ·exact ⟨Nat.lt_of_lt_of_le (h.bs k hs).1 hO.size, (h.bs k hs).2.1, fun p => (h.bs k hs).2.2 (hf k (h.bs k hs).1 p)⟩
end TabS
end
section
open Go.ChangeShapes Go.WideShapes Go.ChangeAt Go.RowKit Go.Shelf
namespace TabS
def Pr (W w : World) (b rb : Nat) (S : Nat → Prop) (L M : List Sn) : Prop := ∃ base tv rbase v, Two W w b base tv L rb rbase v M S
theorem Pr.call {W w w' : World} {b rb : Nat} {S : Nat → Prop} {L M : List Sn} (h : Pr W w b rb S L M) (hb : Below w.heap.size w w') : Pr W w' b rb S L M := by
 obtain ⟨base, tv, rbase, v, hT⟩ := h
 exact ⟨base, tv, rbase, v, hT.call hb⟩
theorem Pr.below {W w : World} {b rb : Nat} {S : Nat → Prop} {L M : List Sn} (h : Pr W w b rb S L M) : Below W.heap.size W w := h.choose_spec.choose_spec.choose_spec.choose_spec.bl
theorem Pr.asc {W w : World} {b rb : Nat} {S : Nat → Prop} {L M : List Sn} (h : Pr W w b rb S L M) : Asc (rowsS L) := h.choose_spec.choose_spec.choose_spec.choose_spec.pk.tab.asc
theorem Pr.lt {W w : World} {b rb k : Nat} {S : Nat → Prop} {L M : List Sn} (h : Pr W w b rb S L M) (hk : S k) : k < w.heap.size := (h.choose_spec.choose_spec.choose_spec.choose_spec.bs k hk).1
theorem SameK.of_below {S : Nat → Prop} {w w' : World} (hb : Below w.heap.size w w') (hS : ∀ k, S k → k < w.heap.size) : SameK S w w' := fun k hk => hb.block k (hS k hk)
def AddRel (L : List Sn) (id n : Int) (L' : List Sn) : Prop := (addSR L id n = 0 ∧ ∃ g, L' = insS L ⟨id, g, List.replicate n.toNat zC⟩) ∨ (addSR L id n ≠ 0 ∧ L' = L)
theorem add_same {L M L' M' : List Sn} {id n : Int} (h : SameS L M) (h1 : AddRel L id n L') (h2 : AddRel M id n M') : SameS L' M' ∧ addSR L id n = addSR M id n := by
 have e : addSR L id n = addSR M id n := by unfold addSR; rw [h.has]
 refine ⟨?_, e⟩
 rcases h1 with ⟨a, g, rfl⟩ | ⟨a, rfl⟩
 ·rcases h2 with ⟨_, g', rfl⟩ | ⟨a', rfl⟩
  ·exact h.ins id g g' _
  ·exact absurd (e ▸ a) a'
 ·rcases h2 with ⟨a', g', rfl⟩ | ⟨_, rfl⟩
  ·exact absurd (e.symm ▸ a') a
  ·exact h
theorem Pr.addP {W w : World} {b rb : Nat} {S : Nat → Prop} {L M : List Sn} (h : Pr W w b rb S L M) (hl : L.length < 1000000) (id n : Int) :
  Calls Tryz.prog 75 #[.pointer (some ⟨b, 0, none⟩), .int .i64 id, .int .i64 n] w fun e w' => e = .returned (.int .i64 (addSR L id n)) ∧ ∃ L', AddRel L id n L' ∧ Pr W w' b rb S L' M ∧ SameK S w w' := by
 obtain ⟨base, tv, rbase, v, hT⟩ := h
 by_cases ha : id < 1 ∨ n < 1 ∨ 16 < n
 ·have e0 : addSR L id n = 2 := by unfold addSR; rw [if_pos ha]
  rw [e0]
  refine (sadd_arg w b id n ha).mono ?_
  rintro e w' ⟨rfl, rfl⟩
  exact ⟨rfl, L, .inr ⟨by rw [e0]; decide, rfl⟩, ⟨base, tv, rbase, v, hT⟩, fun k hk => rfl⟩
 ·obtain ⟨m, rfl⟩ : ∃ m : Nat, n = m := ⟨n.toNat, by omega⟩
  cases hh : hasS L id with
  | true =>
   have e0 : addSR L id m = 11 := by unfold addSR; rw [if_neg ha, hh, if_pos rfl]
   rw [e0]
   refine (sadd_full w b base tv L id m hT.pk (by omega) (by omega) (by omega) hh).mono ?_
   rintro e w' ⟨rfl, hb⟩
   exact ⟨rfl, L, .inr ⟨by rw [e0]; decide, rfl⟩, ⟨base, tv, rbase, v, hT.call hb⟩, SameK.of_below hb (fun k hk => (hT.bs k hk).1)⟩
  | false =>
   have e0 : addSR L id m = 0 := by unfold addSR; rw [if_neg ha, hh, if_neg (by decide)]
   rw [e0]
   refine (sadd_yes w b base tv L id m hT.pk hl (by omega) (by omega) (by omega) hh).mono ?_
   rintro e w' ⟨rfl, tv', g, hg, hA, hO⟩
   obtain ⟨q1, q2⟩ := hT.actP hA hO
   exact ⟨rfl, _, .inl ⟨e0, g, by simp⟩, ⟨base, tv', rbase, v, q1⟩, q2⟩
theorem Pr.addR {W w : World} {b rb : Nat} {S : Nat → Prop} {L M : List Sn} (h : Pr W w b rb S L M) (hA : Asc (rowsS M)) (hl : M.length < 1000000) (id n : Int) :
  Calls Tryz.prog 32 #[.pointer (some ⟨rb, 0, none⟩), .int .i64 id, .int .i64 n] w fun e w' => e = .returned (.int .i64 (addSR M id n)) ∧ ∃ M', AddRel M id n M' ∧ Pr W w' b rb S L M' ∧ SameK S w w' := by
 obtain ⟨base, tv, rbase, v, hT⟩ := h
 by_cases ha : id < 1 ∨ n < 1 ∨ 16 < n
 ·have e0 : addSR M id n = 2 := by unfold addSR; rw [if_pos ha]
  rw [e0]
  refine (radd_arg w rb id n ha).mono ?_
  rintro e w' ⟨rfl, rfl⟩
  exact ⟨rfl, M, .inr ⟨by rw [e0]; decide, rfl⟩, ⟨base, tv, rbase, v, hT⟩, fun k hk => rfl⟩
 ·obtain ⟨m, rfl⟩ : ∃ m : Nat, n = m := ⟨n.toNat, by omega⟩
  cases hh : hasS M id with
  | true =>
   have e0 : addSR M id m = 11 := by unfold addSR; rw [if_neg ha, hh, if_pos rfl]
   rw [e0]
   obtain ⟨r, hr, hri⟩ := (hasR_at hA).1 (show hasR (rowsS M) id = true from hh)
   rw [rowsS_get] at hr
   cases hx : M[posR (rowsS M) id]? with
   | none => rw [hx] at hr; cases hr
   | some x =>
    rw [hx] at hr
    cases hr
    obtain ⟨y, hF, _⟩ := first_of (L := M) (M := M) rfl hA (show M[posS M id]? = some x from hx) hri
    refine (radd_full w rb rbase v M id m _ y hT.rf hl (by omega) (by omega) (by omega) hF).mono ?_
    rintro e w' ⟨rfl, rfl⟩
    exact ⟨rfl, M, .inr ⟨by rw [e0]; decide, rfl⟩, ⟨base, tv, rbase, v, hT⟩, fun k hk => rfl⟩
  | false =>
   have e0 : addSR M id m = 0 := by unfold addSR; rw [if_neg ha, hh, if_neg (by decide)]
   rw [e0]
   refine (radd_yes w rb rbase v M id m hT.rf hA hl (by omega) (by omega) (by omega) (no_of hh)).mono ?_
   rintro e w' ⟨rfl, u, G, hG, hR, hO⟩
   obtain ⟨q1, q2⟩ := hT.actR hR hO
   exact ⟨rfl, _, .inl ⟨e0, G, by simp⟩, ⟨base, tv, rbase, u, q1⟩, q2⟩
theorem Pr.used {W w : World} {b rb : Nat} {S : Nat → Prop} {L M : List Sn} (h : Pr W w b rb S L M) (hl : L.length < 1000000) :
  Calls Tryz.prog 52 #[.pointer (some ⟨b, 0, none⟩)] w fun e w' => ∃ r, e = .returned r ∧ w'.ownsRow w.heap.size 46 10 r (heldA L).length (hdsC (heldA L)) ∧ Below w.heap.size w w' := by
 obtain ⟨base, tv, rbase, v, hT⟩ := h
 exact used_all w b base tv L hT.pk hl
theorem Pr.rused {W w : World} {b rb : Nat} {S : Nat → Prop} {L M : List Sn} (h : Pr W w b rb S L M) (hl : M.length < 1000000) :
  Calls Tryz.prog 48 #[.pointer (some ⟨rb, 0, none⟩)] w fun e w' => ∃ r, e = .returned r ∧ w'.ownsRow w.heap.size 46 10 r (heldA M).length (hdsC (heldA M)) ∧ Below w.heap.size w w' := by
 obtain ⟨base, tv, rbase, v, hT⟩ := h
 exact rused_any w rb rbase v M hT.rf hl
def sizS (L : List Sn) (id : Int) : Int := if hasS L id = true then (match L[posS L id]? with | some x => (x.l.length : Int) | none => 0) else 0
theorem first_self {M : List Sn} (hA : Asc (rowsS M)) {id : Int} (hh : hasS M id = true) : ∃ x, M[posS M id]? = some x ∧ FirstS M id (posS M id) x := by
 obtain ⟨r, hr, hri⟩ := (hasR_at hA).1 (show hasR (rowsS M) id = true from hh)
 rw [rowsS_get] at hr
 cases hx : M[posR (rowsS M) id]? with
 | none => rw [hx] at hr; cases hr
 | some x =>
  rw [hx] at hr
  cases hr
  obtain ⟨y, hF, _⟩ := first_of (L := M) (M := M) rfl hA (show M[posS M id]? = some x from hx) hri
  exact ⟨y, hF.1, hF⟩
def dropSR (L : List Sn) (id : Int) : Int := if hasS L id = true then (match L[posS L id]? with | some x => if (heldL id 0 x.l).length = 0 then 0 else 16 | none => 2) else 2
def dropSL (L : List Sn) (id : Int) : List Sn := if dropSR L id = 0 then L.take (posS L id) ++ L.drop (posS L id + 1) else L
theorem drop_same {L M : List Sn} (h : SameS L M) (id : Int) : dropSR L id = dropSR M id ∧ SameS (dropSL L id) (dropSL M id) := by
 have e : dropSR L id = dropSR M id := by
  unfold dropSR
  rw [h.has, h.pos]
  split
  ·cases hx : L[posS M id]? with
   | none =>
    cases hy : M[posS M id]? with
    | none => rfl
    | some y => obtain ⟨z, hz, _⟩ := h.symm.get hy; rw [hx] at hz; cases hz
   | some x =>
    obtain ⟨y, hy, _, e⟩ := h.get hx
    rw [hy]
    simp only []
    rw [e]
  ·rfl
 refine ⟨e, ?_⟩
 unfold dropSL
 rw [e, h.pos]
 split
 ·exact h.del _
 ·exact h
theorem Pr.dropP {W w : World} {b rb : Nat} {S : Nat → Prop} {L M : List Sn} (h : Pr W w b rb S L M) (id : Int) :
  Calls Tryz.prog 94 #[.pointer (some ⟨b, 0, none⟩), .int .i64 id] w fun e w' => e = .returned (.int .i64 (dropSR L id)) ∧ Pr W w' b rb S (dropSL L id) M ∧ SameK S w w' := by
 obtain ⟨base, tv, rbase, v, hT⟩ := h
 cases hh : hasS L id with
 | false =>
  have e0 : dropSR L id = 2 := by unfold dropSR; rw [hh, if_neg (by decide)]
  have e1 : dropSL L id = L := by unfold dropSL; rw [e0, if_neg (by decide)]
  rw [e0, e1]
  refine (sdrop_no w b base tv L id hT.pk hh).mono ?_
  rintro e w' ⟨rfl, hb⟩
  exact ⟨rfl, ⟨base, tv, rbase, v, hT.call hb⟩, SameK.of_below hb (fun k hk => (hT.bs k hk).1)⟩
 | true =>
  obtain ⟨x, hx, hid⟩ := (hasS_at hT.pk).1 hh
  have e0 : dropSR L id = if (heldL id 0 x.l).length = 0 then 0 else 16 := by unfold dropSR; rw [hh, if_pos rfl, hx]
  refine (sdrop_yes w b base tv L id x hT.pk hx hid).mono ?_
  rintro e w' (⟨hN, rfl, hb⟩ | ⟨hN, rfl, tv', hA, hO⟩)
  ·rw [if_neg hN] at e0
   have e1 : dropSL L id = L := by unfold dropSL; rw [e0, if_neg (by decide)]
   rw [e0, e1]
   exact ⟨rfl, ⟨base, tv, rbase, v, hT.call hb⟩, SameK.of_below hb (fun k hk => (hT.bs k hk).1)⟩
  ·rw [if_pos hN] at e0
   have e1 : dropSL L id = delS L id := by unfold dropSL delS; rw [e0, if_pos rfl]
   rw [e0, e1]
   obtain ⟨q1, q2⟩ := hT.actP hA hO
   exact ⟨rfl, ⟨base, tv', rbase, v, q1⟩, q2⟩
theorem Pr.dropRf {W w : World} {b rb : Nat} {S : Nat → Prop} {L M : List Sn} (h : Pr W w b rb S L M) (hA : Asc (rowsS M)) (hl : M.length < 1000000) (id : Int) :
  Calls Tryz.prog 46 #[.pointer (some ⟨rb, 0, none⟩), .int .i64 id] w fun e w' => e = .returned (.int .i64 (dropSR M id)) ∧ Pr W w' b rb S L (dropSL M id) ∧ SameK S w w' := by
 obtain ⟨base, tv, rbase, v, hT⟩ := h
 cases hh : hasS M id with
 | false =>
  have e0 : dropSR M id = 2 := by unfold dropSR; rw [hh, if_neg (by decide)]
  have e1 : dropSL M id = M := by unfold dropSL; rw [e0, if_neg (by decide)]
  rw [e0, e1]
  refine (rdrop_no w rb rbase v M id hT.rf hl (no_of hh)).mono ?_
  rintro e w' ⟨rfl, rfl⟩
  exact ⟨rfl, ⟨base, tv, rbase, v, hT⟩, fun k hk => rfl⟩
 | true =>
  obtain ⟨x, hx, hF⟩ := first_self hA hh
  have e0 : dropSR M id = if (heldL id 0 x.l).length = 0 then 0 else 16 := by unfold dropSR; rw [hh, if_pos rfl, hx]
  by_cases hN : (heldL id 0 x.l).length = 0
  ·rw [if_pos hN] at e0
   have e1 : dropSL M id = M.take (posS M id) ++ M.drop (posS M id + 1) := by unfold dropSL; rw [e0, if_pos rfl]
   rw [e0, e1]
   refine (rdrop_ok w rb rbase v M id _ x hT.rf hl hF hN).mono ?_
   rintro e w' ⟨rfl, u, hR, hO⟩
   obtain ⟨q1, q2⟩ := hT.actR hR hO
   exact ⟨rfl, ⟨base, tv, rbase, u, q1⟩, q2⟩
  ·rw [if_neg hN] at e0
   have e1 : dropSL M id = M := by unfold dropSL; rw [e0, if_neg (by decide)]
   rw [e0, e1]
   refine (rdrop_busy w rb rbase v M id _ x hT.rf hl hF hN).mono ?_
   rintro e w' ⟨rfl, rfl⟩
   exact ⟨rfl, ⟨base, tv, rbase, v, hT⟩, fun k hk => rfl⟩
end TabS
end
section
open Go.ChangeShapes Go.WideShapes Go.ChangeAt Go.RowKit Go.Shelf
namespace TabS
def getR (L : List Sn) (id ix : Int) : Option Cp := if hasS L id = true ∧ 0 ≤ ix then (match L[posS L id]? with | some x => x.l[ix.toNat]? | none => none) else none
theorem getR_same {L M : List Sn} (h : SameS L M) (id ix : Int) : getR L id ix = getR M id ix := by
 unfold getR
 rw [h.has, h.pos]
 split
 ·cases hx : L[posS M id]? with
  | none =>
   cases hy : M[posS M id]? with
   | none => rfl
   | some y => obtain ⟨z, hz, _⟩ := h.symm.get hy; rw [hx] at hz; cases hz
  | some x =>
   obtain ⟨y, hy, _, e⟩ := h.get hx
   rw [hy]
   simp only []
   rw [e]
 ·rfl
theorem getR_no {w : World} {b base : Nat} {tv : Value} {L : List Sn} (h : SlotsAt w b base tv L) {id ix : Int} (hn : NoSlot L id ix) : getR L id ix = none := by
 unfold getR
 rcases hn with hh | ⟨x, hx, hid, hi⟩
 ·rw [if_neg (by rw [hh]; simp)]
 ·by_cases h0 : hasS L id = true ∧ 0 ≤ ix
  ·rw [if_pos h0, hx]
   exact List.getElem?_eq_none (by omega)
  ·rw [if_neg h0]
theorem getR_yes {L : List Sn} {id : Int} {x : Sn} {i : Nat} (hh : hasS L id = true) (hx : L[posS L id]? = some x) : getR L id i = x.l[i]? := by
 unfold getR
 rw [if_pos ⟨hh, by omega⟩, hx]
 simp
theorem slot_orR {M : List Sn} (hA : Asc (rowsS M)) (id ix : Int) : (NoSlotR M id ix ∧ getR M id ix = none) ∨ ∃ (x : Sn) (i : Nat) (c : Cp), FirstS M id (posS M id) x ∧ ix = i ∧ x.l[i]? = some c ∧ getR M id ix = some c := by
 cases hh : hasS M id with
 | false => exact .inl ⟨.inl (no_of hh), by unfold getR; rw [if_neg (by rw [hh]; simp)]⟩
 | true =>
  obtain ⟨x, hx, hF⟩ := first_self hA hh
  by_cases h1 : ix < 0 ∨ (x.l.length : Int) ≤ ix
  ·refine .inl ⟨.inr ⟨_, x, hF, h1⟩, ?_⟩
   unfold getR
   by_cases h0 : hasS M id = true ∧ 0 ≤ ix
   ·rw [if_pos h0, hx]
    exact List.getElem?_eq_none (by omega)
   ·rw [if_neg h0]
  ·obtain ⟨i, rfl⟩ : ∃ i : Nat, ix = i := ⟨ix.toNat, by omega⟩
   have hi : i < x.l.length := by omega
   exact .inr ⟨x, i, x.l[i]'hi, hF, rfl, List.getElem?_eq_getElem hi, by rw [getR_yes hh hx]; exact List.getElem?_eq_getElem hi⟩
def getN (o : Option Cp) : Int := match o with | some _ => 0 | none => 3
theorem Pr.getP {W w : World} {b rb : Nat} {S : Nat → Prop} {L M : List Sn} (h : Pr W w b rb S L M) (id ix : Int) :
  Calls Tryz.prog 66 #[.pointer (some ⟨b, 0, none⟩), .agg #[.int .i64 id, .int .i64 ix]] w fun e w' => e = .returned (.tuple #[((getR L id ix).getD zC).V, .int .i64 (getN (getR L id ix))]) ∧ Below w.heap.size w w' := by
 obtain ⟨base, tv, rbase, v, hT⟩ := h
 rcases slot_or hT.pk id ix with hn | ⟨x, i, hx, hid, rfl, hi⟩
 ·rw [getR_no hT.pk hn]
  exact sget_no w b base tv L id ix hT.pk hn
 ·rw [getR_yes ((hasS_at hT.pk).2 ⟨x, hx, hid⟩) hx, List.getElem?_eq_getElem hi]
  exact sget_yes w b base tv L id i x _ hT.pk hx hid (List.getElem?_eq_getElem hi)
theorem Pr.rget {W w : World} {b rb : Nat} {S : Nat → Prop} {L M : List Sn} (h : Pr W w b rb S L M) (hA : Asc (rowsS M)) (hl : M.length < 1000000) (id ix : Int) :
  Calls Tryz.prog 47 #[.pointer (some ⟨rb, 0, none⟩), .agg #[.int .i64 id, .int .i64 ix]] w fun e w' => e = .returned (.tuple #[((getR M id ix).getD zC).V, .int .i64 (getN (getR M id ix))]) ∧ Below w.heap.size w w' := by
 obtain ⟨base, tv, rbase, v, hT⟩ := h
 rcases slot_orR hA id ix with ⟨hn, e⟩ | ⟨x, i, c, hF, rfl, hc, e⟩
 ·rw [e]
  exact rget_no w rb rbase v M id ix hT.rf hl hn
 ·rw [e]
  exact rget_yes w rb rbase v M id i _ x c hT.rf hl hF hc
def setN (L : List Sn) (id ix : Int) (c : Cp) : Int := match getR L id ix with | none => 3 | some _ => if mayC c = true then 0 else 5
def setM (L : List Sn) (id ix : Int) (c : Cp) : List Sn := if setN L id ix c = 0 then (match L[posS L id]? with | some x => putS L (posS L id) x ix.toNat c | none => L) else L
theorem set_same {L M : List Sn} (h : SameS L M) (id ix : Int) (c : Cp) : setN L id ix c = setN M id ix c ∧ SameS (setM L id ix c) (setM M id ix c) := by
 have e : setN L id ix c = setN M id ix c := by unfold setN; rw [getR_same h]
 refine ⟨e, ?_⟩
 unfold setM
 rw [e, h.pos]
 split
 ·cases hx : L[posS M id]? with
  | none =>
   cases hy : M[posS M id]? with
   | none => exact h
   | some y => obtain ⟨z, hz, _⟩ := h.symm.get hy; rw [hx] at hz; cases hz
  | some x =>
   obtain ⟨y, hy, e1, e2⟩ := h.get hx
   rw [hy]
   exact h.put e1 e2 _ c
 ·exact h
theorem Pr.setP {W w : World} {b rb : Nat} {S : Nat → Prop} {L M : List Sn} (h : Pr W w b rb S L M) (hT0 : CX.TabG w) (id ix : Int) (c : Cp) (he : c.e ≤ 9223372036854775807) :
  Calls Tryz.prog 71 #[.pointer (some ⟨b, 0, none⟩), .agg #[.int .i64 id, .int .i64 ix], c.V] w fun e w' => e = .returned (.int .i64 (setN L id ix c)) ∧ Pr W w' b rb S (setM L id ix c) M ∧ SameK S w w' := by
 obtain ⟨base, tv, rbase, v, hT⟩ := h
 rcases slot_or hT.pk id ix with hn | ⟨x, i, hx, hid, rfl, hi⟩
 ·have e0 : setN L id ix c = 3 := by unfold setN; rw [getR_no hT.pk hn]
  have e1 : setM L id ix c = L := by unfold setM; rw [e0, if_neg (by decide)]
  rw [e0, e1]
  refine (sset_no w b base tv L id ix c hT.pk hn).mono ?_
  rintro e w' ⟨rfl, hb⟩
  exact ⟨rfl, ⟨base, tv, rbase, v, hT.call hb⟩, SameK.of_below hb (fun k hk => (hT.bs k hk).1)⟩
 ·have eg : getR L id i = some (x.l[i]'hi) := by rw [getR_yes ((hasS_at hT.pk).2 ⟨x, hx, hid⟩) hx]; exact List.getElem?_eq_getElem hi
  cases hm : mayC c with
  | true =>
   have e0 : setN L id i c = 0 := by unfold setN; rw [eg]; simp [hm]
   have e1 : setM L id i c = putS L (posS L id) x i c := by unfold setM; rw [e0, if_pos rfl, hx]; simp
   rw [e0, e1]
   refine (sset_yes w b base tv L id i x c hT.pk hT0 he hx hid hi hm).mono ?_
   rintro e w' ⟨rfl, hA, hO⟩
   obtain ⟨q1, q2⟩ := hT.actP hA hO
   exact ⟨rfl, ⟨base, tv, rbase, v, q1⟩, q2⟩
  | false =>
   have e0 : setN L id i c = 5 := by unfold setN; rw [eg]; simp [hm]
   have e1 : setM L id i c = L := by unfold setM; rw [e0, if_neg (by decide)]
   rw [e0, e1]
   refine (sset_form w b base tv L id i x c hT.pk hT0 he hx hid hi hm).mono ?_
   rintro e w' ⟨rfl, hb⟩
   exact ⟨rfl, ⟨base, tv, rbase, v, hT.call hb⟩, SameK.of_below hb (fun k hk => (hT.bs k hk).1)⟩
theorem Pr.rset {W w : World} {b rb : Nat} {S : Nat → Prop} {L M : List Sn} (h : Pr W w b rb S L M) (hA : Asc (rowsS M)) (hl : M.length < 1000000) (id ix : Int) (c : Cp) :
  Calls Tryz.prog 82 #[.pointer (some ⟨rb, 0, none⟩), .agg #[.int .i64 id, .int .i64 ix], c.V] w fun e w' => e = .returned (.int .i64 (setN M id ix c)) ∧ Pr W w' b rb S L (setM M id ix c) ∧ SameK S w w' := by
 obtain ⟨base, tv, rbase, v, hT⟩ := h
 rcases slot_orR hA id ix with ⟨hn, eg⟩ | ⟨x, i, c0, hF, rfl, hc, eg⟩
 ·have e0 : setN M id ix c = 3 := by unfold setN; rw [eg]
  have e1 : setM M id ix c = M := by unfold setM; rw [e0, if_neg (by decide)]
  rw [e0, e1]
  refine (rset_no w rb rbase v M id ix c hT.rf hl hn).mono ?_
  rintro e w' ⟨rfl, hb⟩
  exact ⟨rfl, ⟨base, tv, rbase, v, hT.call hb⟩, SameK.of_below hb (fun k hk => (hT.bs k hk).1)⟩
 ·have hi := (lgs hc).1
  cases hm : mayC c with
  | true =>
   have e0 : setN M id i c = 0 := by unfold setN; rw [eg]; simp [hm]
   have e1 : setM M id i c = putS M (posS M id) x i c := by unfold setM; rw [e0, if_pos rfl, hF.1]; simp
   rw [e0, e1]
   refine (rset_yes w rb rbase v M id i _ x c hT.rf hl hF hi hm).mono ?_
   rintro e w' ⟨rfl, hR, hO⟩
   obtain ⟨q1, q2⟩ := hT.actR hR hO
   exact ⟨rfl, ⟨base, tv, rbase, v, q1⟩, q2⟩
  | false =>
   have e0 : setN M id i c = 5 := by unfold setN; rw [eg]; simp [hm]
   have e1 : setM M id i c = M := by unfold setM; rw [e0, if_neg (by decide)]
   rw [e0, e1]
   refine (rset_form w rb rbase v M id i _ x c hT.rf hl hF hi hm).mono ?_
   rintro e w' ⟨rfl, hb⟩
   exact ⟨rfl, ⟨base, tv, rbase, v, hT.call hb⟩, SameK.of_below hb (fun k hk => (hT.bs k hk).1)⟩
end TabS
end
section
open Go.ChangeShapes Go.WideShapes Go.ChangeAt Go.RowKit Go.Shelf
namespace TabS
theorem num_s (x : Int) (w : World) : Calls Tryz.prog 33 #[.int .i64 x] w fun e w' => e = .returned (.int .i64 x) ∧ w = w' := by
 go_enter Tryz.func33, Tryz.ntmps33
 go_wp2
 go_ret
 exact ⟨rfl, rfl⟩
theorem Two.mono {W w : World} {b base : Nat} {tv : Value} {L : List Sn} {rb rbase : Nat} {v : Value} {M : List Sn} {S T : Nat → Prop} (h : Two W w b base tv L rb rbase v M S) (hs : ∀ k, T k → S k) : Two W w b base tv L rb rbase v M T :=
 ⟨h.pk, h.rf, h.lo, h.lr, h.bl, h.ap, fun k hk => h.bs k (hs k hk)⟩
theorem Pr.mono {W w : World} {b rb : Nat} {S T : Nat → Prop} {L M : List Sn} (h : Pr W w b rb S L M) (hs : ∀ k, T k → S k) : Pr W w b rb T L M := by
 obtain ⟨base, tv, rbase, v, hT⟩ := h
 exact ⟨base, tv, rbase, v, hT.mono hs⟩
theorem Pr.fresh {W w w' : World} {b rb : Nat} {S : Nat → Prop} {L M : List Sn} (h : Pr W w b rb S L M) (hb : Below w.heap.size w w') : Pr W w' b rb (fun k => S k ∨ (w.heap.size ≤ k ∧ k < w'.heap.size)) L M := by
 obtain ⟨base, tv, rbase, v, hT⟩ := h
 have hc := hT.call hb
 refine ⟨base, tv, rbase, v, ⟨hc.pk, hc.rf, hc.lo, hc.lr, hc.bl, hc.ap, fun k hk => ?_⟩⟩
 rcases hk with hk | ⟨h1, h2⟩
 ·exact hc.bs k hk
 ·exact ⟨h2, fun p => by have := foot_ltP hT.pk p; omega, fun p => by have := foot_ltR hT.rf p; omega⟩
theorem Pr.turn {W w w' : World} {b rb B : Nat} {S : Nat → Prop} {L M : List Sn} (h : Pr W w b rb S L M) (hS : S B) (hB : W.heap.size ≤ B) (hg : w.grownBy w' (some B)) : Pr W w' b rb S L M := by
 obtain ⟨base, tv, rbase, v, hT⟩ := h
 have hk : ∀ k, k < w.heap.size → k ≠ B → w'.heap[k]? = w.heap[k]? := fun k hl hn => hg.block k hl (fun e => hn (Option.some.inj e))
 obtain ⟨p1, p2, p3⟩ := hT.bs B hS
 refine ⟨base, tv, rbase, v, ⟨hT.pk.of hg.size (fun k q => hk k (foot_ltP hT.pk q) (fun e => p2 (e ▸ q))), hT.rf.of hg.size (fun k q => hk k (foot_ltR hT.rf q) (fun e => p3 (e ▸ q))), hT.lo, hT.lr, ⟨hg.os.trans hT.bl.os, hg.tape.trans hT.bl.tape, hg.output.trans hT.bl.output, Nat.le_trans hT.bl.size hg.size, fun k hl => (hk k (Nat.lt_of_lt_of_le hl hT.bl.size) (by omega)).trans (hT.bl.block k hl)⟩, hT.ap, fun k hk => ⟨Nat.lt_of_lt_of_le (hT.bs k hk).1 hg.size, (hT.bs k hk).2⟩⟩⟩
theorem add_len {L L' : List Sn} {id n : Int} (h : AddRel L id n L') : L'.length ≤ L.length + 1 := by
 rcases h with ⟨_, g, rfl⟩ | ⟨_, rfl⟩
 ·unfold insS
  rw [List.length_append, List.length_cons, List.length_take, List.length_drop]
  omega
 ·omega
theorem drop_len (L : List Sn) (id : Int) : (dropSL L id).length ≤ L.length := by
 unfold dropSL
 split
 ·rw [List.length_append, List.length_take, List.length_drop]
  omega
 ·exact Nat.le_refl _
theorem set_len (L : List Sn) (id ix : Int) (c : Cp) : (setM L id ix c).length = L.length := by
 unfold setM
 split
 ·split
  ·unfold putS; rw [List.length_set]
  ·rfl
 ·rfl
end TabS
end
end
section
open Go.RowKit Go.Shelf
variable {P : Program} {F : Fence} {n : Nat}
end
section
open Go.ChangeShapes Go.WideShapes Go.ChangeAt Go.RowKit
abbrev slV (o i : Int) : Value := .agg #[.int .i64 o, .int .i64 i]
end
section
open Go.ChangeShapes Go.WideShapes Go.ChangeAt Go.RowKit
open Go.Maps (Keyed IsMap)
theorem laidS : laidOutB Tryz.prog = true := by kernel_rfl
theorem lawS : Keyed Tryz.prog 30 := Keyed.of_law (deep_law_laid laidS (m := 4) (by decide) (of_decide_eq_true (by kernel_rfl)) (by kernel_rfl) (by kernel_rfl))
def InS (x : Int) : Prop := -9223372036854775808 ≤ x ∧ x ≤ 9223372036854775807
theorem wfS {x : Int} (h : InS x) : (Lit.int .i64 x).wf = true := by
 obtain ⟨a, b⟩ := h
 have e1 : IntKind.i64.min = -9223372036854775808 := by decide
 have e2 : IntKind.i64.max = 9223372036854775807 := by decide
 simp only [Lit.wf, e1, e2, Bool.and_eq_true, decide_eq_true_eq]
 exact ⟨a, b⟩
def KS (o i : Int) : Lit := .string (keyBytes [.int .i64 o, .int .i64 i])
theorem keyS (o i : Int) (ho : InS o) (hi : InS i) : keyOf Tryz.prog 30 (slV o i) = some (KS o i) := by
 have e1 := wfS ho
 have e2 := wfS hi
 obtain ⟨N, hN⟩ : ∃ N, Tryz.prog.types.size = N + 1 + 1 := ⟨Tryz.prog.types.size - 2, by kernel_rfl⟩
 have hf : (slV o i).formed Tryz.prog 30 = true := by kernel_rfl
 have hc : Tryz.prog.cellsOf 3 = 1 := by kernel_rfl
 unfold keyOf KS
 rw [Tryz.underlying30]
 simp only [hf, if_true, hN]
 unfold Program.keyLits
 simp only [Tryz.underlying30]
 unfold Program.keyLits
 simp [Tryz.underlying3, mapKey, e1, e2, hc, Value.cells]
 exact ⟨by kernel_rfl, by kernel_rfl⟩
theorem KS_inj {o i p j : Int} (ho : InS o) (hi : InS i) (hp : InS p) (hj : InS j) (h : KS o i = KS p j) : o = p ∧ i = j := by
 have := lawS.inj (keyS o i ho hi) (h ▸ keyS p j hp hj)
 simpa using this
def ptrV : Option Nat → Value
 | none => .pointer none
 | some b => .pointer (some ⟨b, 0, none⟩)
theorem ptrV_none : ptrV none = .pointer none := rfl
theorem ptrV_some (b : Nat) : ptrV (some b) = .pointer (some ⟨b, 0, none⟩) := rfl
def litP : Option Nat → DataW Unit
 | none => .lit (.int .i64 0)
 | some b => .lit (.int .i64 ((b + 1 : Nat) : Int))
def elP : Value → Option (DataW Unit × List MemPlace)
 | .pointer none => some (litP none, [])
 | .pointer (some ⟨b, 0, none⟩) => some (litP (some b), [])
 | _ => none
theorem elP_mk (x : Option Nat) : elP (ptrV x) = some (litP x, []) := by cases x <;> rfl
theorem litP_inj {x y : Option Nat} (h : litP x = litP y) : x = y := by
 cases x <;> cases y <;> simp [litP] at h ⊢ <;> omega
theorem elP_inv {v : Value} {x : Option Nat} {ps : List MemPlace} (h : elP v = some (litP x, ps)) : v = ptrV x := by
 unfold elP at h
 split at h
 ·simp only [Option.some.injEq, Prod.mk.injEq] at h
  rw [← litP_inj h.1]; rfl
 ·simp only [Option.some.injEq, Prod.mk.injEq] at h
  rw [← litP_inj h.1]; rfl
 ·cases h
theorem zeroP (w : World) : (zeroValue 119).run Tryz.prog w = .ok (ptrV none) w := by kernel_rfl
theorem kS (o i : Int) : WideAt.IsKeyLit (KS o i) := by
 first | trivial | (simp [WideAt.IsKeyLit, KS]; done) | exact ⟨_, _, rfl⟩
def MapS (W : World) (m n : Nat) (f : Int → Int → Option Nat) : Prop :=
 ∃ D : DataW Unit, W.ownsMap Tryz.prog 30 elP m n D ∧ ∀ o i, InS o → InS i → Maps.has D (KS o i) = (f o i).isSome ∧ D.atKey (KS o i) (litP none) = litP (f o i)
theorem MapS.lt {W : World} {m n : Nat} {f : Int → Int → Option Nat} (h : MapS W m n f) : m < W.heap.size := by
 obtain ⟨D, ho, _⟩ := h
 exact ho.lt
theorem MapS.mono {W : World} {m n k : Nat} {f : Int → Int → Option Nat} (h : MapS W m n f) (hk : n ≤ k) : MapS W m k f := by
 obtain ⟨D, ho, hf⟩ := h
 exact ⟨D, ho.mono hk, hf⟩
theorem MapS.of_block {W W' : World} {m n : Nat} {f : Int → Int → Option Nat} (h : MapS W m n f) (e : W'.heap[m]? = W.heap[m]?) : MapS W' m n f := by
 obtain ⟨D, ⟨es, clock, hb, r⟩, hf⟩ := h
 exact ⟨D, ⟨es, clock, e.trans hb, r⟩, hf⟩
theorem MapS.obj {W : World} {m n : Nat} {f : Int → Int → Option Nat} (h : MapS W m n f) : ∃ es clock, W.heap[m]? = some (.map es clock) := by
 obtain ⟨D, ⟨es, clock, hb, r⟩, hf⟩ := h
 exact ⟨es, clock, hb⟩
theorem MapS.made (w : World) : MapS (w.alloc (.map #[] 0)) w.heap.size 0 (fun _ _ => none) :=
 ⟨.map [], World.ownsMap_made w _ _ _, fun o i _ _ => ⟨rfl, rfl⟩⟩
theorem MapS.look {W : World} {m n : Nat} {f : Int → Int → Option Nat} (h : MapS W m n f) {o i : Int} (ho : InS o) (hi : InS i) :
  (Instr.lookup 120 (.map (some m)) (slV o i) false).run Tryz.prog W = .ok (ptrV (f o i)) W := by
 obtain ⟨D, hm, hf⟩ := h
 obtain ⟨v, ps, hr, hv⟩ := hm.lookup lawS Tryz.underlying120 (zeroP W) (elP_mk none) (keyS o i ho hi)
 rw [(hf o i ho hi).2] at hv
 rw [← elP_inv hv]
 exact hr
theorem MapS.look_ok {W : World} {m n : Nat} {f : Int → Int → Option Nat} (h : MapS W m n f) {o i : Int} (ho : InS o) (hi : InS i) :
  (Instr.lookup 120 (.map (some m)) (slV o i) true).run Tryz.prog W = .ok (.tuple #[ptrV (f o i), .bool (f o i).isSome]) W := by
 obtain ⟨D, hm, hf⟩ := h
 obtain ⟨v, ps, hr, hv⟩ := hm.look_ok lawS Tryz.underlying120 (zeroP W) (elP_mk none) (keyS o i ho hi)
 rw [(hf o i ho hi).2] at hv
 rw [(hf o i ho hi).1, elP_inv hv] at hr
 exact hr
def fput (f : Int → Int → Option Nat) (o i : Int) (p : Nat) : Int → Int → Option Nat := fun a b => if a = o ∧ b = i then some p else f a b
def fdel (f : Int → Int → Option Nat) (o i : Int) : Int → Int → Option Nat := fun a b => if a = o ∧ b = i then none else f a b
theorem MapS.put {W : World} {m n : Nat} {f : Int → Int → Option Nat} (h : MapS W m n f) (hn : n < maxLen) {o i : Int} (ho : InS o) (hi : InS i) (p : Nat) :
  ∃ W', (Instr.mapUpdate 120 (.map (some m)) (slV o i) (ptrV (some p))).run Tryz.prog W = .ok () W' ∧ MapS W' m (n + 1) (fput f o i p) ∧ W.mapTurned W' m := by
 obtain ⟨D, hm, hf⟩ := h
 obtain ⟨W', hr, hm', ht⟩ := hm.store lawS Tryz.underlying120 hn (keyS o i ho hi) (elP_mk (some p))
 refine ⟨W', hr, ⟨_, hm', fun a b ha hb => ?_⟩, ht⟩
 unfold fput
 by_cases e : a = o ∧ b = i
 ·obtain ⟨rfl, rfl⟩ := e
  rw [if_pos ⟨rfl, rfl⟩]
  exact ⟨Maps.has_put_same hm.isMap (kS _ _) _, Maps.atKey_put_same hm.isMap (kS _ _) _ _⟩
 ·rw [if_neg e]
  have hne : KS a b ≠ KS o i := fun q => e (KS_inj ha hb ho hi q)
  exact ⟨(Maps.has_put_other hne _).trans (hf a b ha hb).1, (Maps.atKey_put_other hne _ _).trans (hf a b ha hb).2⟩
theorem MapS.del {W : World} {m n : Nat} {f : Int → Int → Option Nat} (h : MapS W m n f) {o i : Int} (ho : InS o) (hi : InS i) (ty : TypeId) :
  ∃ W', (Builtin.delete_ #[120, 30] ty #[.map (some m), slV o i]).run Tryz.prog W = .ok (.tuple #[]) W' ∧ MapS W' m n (fdel f o i) ∧ W.mapTurned W' m := by
 obtain ⟨D, hm, hf⟩ := h
 obtain ⟨W', hr, hm', ht⟩ := hm.drop lawS Tryz.underlying120 (keyS o i ho hi) ty
 refine ⟨W', hr, ⟨_, hm', fun a b ha hb => ?_⟩, ht⟩
 unfold fdel
 by_cases e : a = o ∧ b = i
 ·obtain ⟨rfl, rfl⟩ := e
  rw [if_pos ⟨rfl, rfl⟩]
  exact ⟨Maps.has_del_same, Maps.atKey_del_same _⟩
 ·rw [if_neg e]
  have hne : KS a b ≠ KS o i := fun q => e (KS_inj ha hb ho hi q)
  exact ⟨(Maps.has_del_other hne).trans (hf a b ha hb).1, (Maps.atKey_del_other hne _).trans (hf a b ha hb).2⟩
structure Nod where
 o : Int
 i : Int
 d : Int
deriving DecidableEq
def prv (ps : List Nat) : Nat → Option Nat
 | 0 => none
 | k + 1 => ps[k]?
abbrev placeO (x : Nod) (a b : Option Nat) : Obj := .cells #[.int .i64 x.o, .int .i64 x.i, .int .i64 x.d, ptrV a, ptrV b] 124 (0, 0)
abbrev treeO (a b : Option Nat) (m : Nat) : Obj := .cells #[ptrV a, ptrV b, .map (some m)] 122 (0, 0)
def Finds (ps : List Nat) (l : List Nod) (f : Int → Int → Option Nat) : Prop :=
 ∀ o i p, InS o → InS i → (f o i = some p ↔ ∃ (k : Nat) (x : Nod), ps[k]? = some p ∧ l[k]? = some x ∧ x.o = o ∧ x.i = i)
structure TreeAt (W : World) (B b m n : Nat) (ps : List Nat) (l : List Nod) (f : Int → Int → Option Nat) : Prop where
 len : ps.length = l.length
 le : l.length ≤ n
 head : W.heap[b]? = some (treeO ps[0]? (prv ps ps.length) m)
 row : ∀ (k p : Nat) (x : Nod), ps[k]? = some p → l[k]? = some x → W.heap[p]? = some (placeO x (prv ps k) ps[k + 1]?)
 inj : ∀ (k j p : Nat), ps[k]? = some p → ps[j]? = some p → k = j
 gb : B ≤ b
 gm : B ≤ m
 gp : ∀ (k p : Nat), ps[k]? = some p → B ≤ p
 slots : ∀ (k j : Nat) (x y : Nod), l[k]? = some x → l[j]? = some y → x.o = y.o → x.i = y.i → k = j
 ins : ∀ (k : Nat) (x : Nod), l[k]? = some x → InS x.o ∧ InS x.i ∧ 0 ≤ x.d ∧ x.d ≤ n
 map : MapS W m n f
 finds : Finds ps l f
def foot (b m : Nat) (ps : List Nat) (k : Nat) : Prop := k = b ∨ k = m ∨ ∃ j : Nat, ps[j]? = some k
structure TOnly (w w' : World) (b m : Nat) (ps ps' : List Nat) : Prop where
 os : w'.os = w.os
 tape : w'.tape = w.tape
 output : w'.output = w.output
 size : w.heap.size ≤ w'.heap.size
 block : ∀ k, k < w.heap.size → ¬ foot b m ps k → w'.heap[k]? = w.heap[k]?
 foot : ∀ k, k < w.heap.size → foot b m ps' k → foot b m ps k
theorem TOnly.trans {a c d : World} {b m : Nat} {p0 p1 p2 : List Nat} (h : TOnly a c b m p0 p1) (k : TOnly c d b m p1 p2) : TOnly a d b m p0 p2 :=
  ⟨k.os.trans h.os, k.tape.trans h.tape, k.output.trans h.output, Nat.le_trans h.size k.size,
   fun j hj hf => (k.block j (Nat.lt_of_lt_of_le hj h.size) (fun e => hf (h.foot j hj e))).trans (h.block j hj hf),
   fun j hj hf => h.foot j hj (k.foot j (Nat.lt_of_lt_of_le hj h.size) hf)⟩
theorem TOnly.of_below {w w' : World} {b m : Nat} {ps : List Nat} (h : Below w.heap.size w w') : TOnly w w' b m ps ps :=
 ⟨h.os, h.tape, h.output, h.size, fun k hk _ => h.block k hk, fun k _ h => h⟩
theorem TreeAt.ge {W : World} {B b m n : Nat} {ps : List Nat} {l : List Nod} {f : Int → Int → Option Nat} (h : TreeAt W B b m n ps l f) {k : Nat} (hk : foot b m ps k) : B ≤ k := by
 rcases hk with rfl | rfl | ⟨j, hj⟩
 ·exact h.gb
 ·exact h.gm
 ·exact h.gp j k hj
theorem TreeAt.lt {W : World} {B b m n : Nat} {ps : List Nat} {l : List Nod} {f : Int → Int → Option Nat} (h : TreeAt W B b m n ps l f) {k : Nat} (hk : foot b m ps k) : k < W.heap.size := by
 rcases hk with rfl | rfl | ⟨j, hj⟩
 ·exact (ags h.head).1
 ·exact h.map.lt
 ·have hl : j < ps.length := (lgs hj).1
  have hx : l[j]? = some (l[j]'(by rw [← h.len]; exact hl)) := List.getElem?_eq_getElem _
  exact (ags (h.row j k _ hj hx)).1
theorem TreeAt.of_blocks {W W' : World} {B b m n : Nat} {ps : List Nat} {l : List Nod} {f : Int → Int → Option Nat} (h : TreeAt W B b m n ps l f) (e : ∀ k, foot b m ps k → W'.heap[k]? = W.heap[k]?) : TreeAt W' B b m n ps l f :=
 { h with
  head := (e b (.inl rfl)).trans h.head
  row := fun k p x hp hx => (e p (.inr (.inr ⟨k, hp⟩))).trans (h.row k p x hp hx)
  map := h.map.of_block (e m (.inr (.inl rfl))) }
theorem TreeAt.call {W W' : World} {B b m n : Nat} {ps : List Nat} {l : List Nod} {f : Int → Int → Option Nat} (h : TreeAt W B b m n ps l f) (hb : Below W.heap.size W W') : TreeAt W' B b m n ps l f :=
 h.of_blocks fun k hk => hb.block k (h.lt hk)
theorem TreeAt.mono {W : World} {B b m n n' : Nat} {ps : List Nat} {l : List Nod} {f : Int → Int → Option Nat} (h : TreeAt W B b m n ps l f) (hn : n ≤ n') : TreeAt W B b m n' ps l f :=
 { h with le := Nat.le_trans h.le hn, ins := fun k x hx => by obtain ⟨a, b, c, d⟩ := h.ins k x hx; exact ⟨a, b, c, by omega⟩, map := h.map.mono hn }
theorem new_any (w : World) : Calls Tryz.prog 74 #[] w fun e w' => e = .returned (.pointer (some ⟨w.heap.size + 1, 0, none⟩)) ∧ TreeAt w' w.heap.size (w.heap.size + 1) w.heap.size 0 [] [] (fun _ _ => none) ∧ Below w.heap.size w w' := by
 have hmm := @run_makeMap Tryz.prog
 go_enter Tryz.func74, Tryz.ntmps74
 go_wp2
 go_ret
 refine ⟨rfl, ⟨rfl, Nat.le_refl _, ?_, fun k p x h => by simp at h, fun k j p h => by simp at h, by omega, by omega, fun k p h => by simp at h, fun k j x y h => by simp at h, fun k x h => by simp at h, ?_, fun o i p _ _ => by simp⟩, bal (bal (Below.refl _ _) _) _⟩
 ·have h := World.alloc_heap_new (w.alloc (.map #[] 0)) (treeO none none w.heap.size)
  rw [World.size_alloc] at h
  exact h
 ·exact (MapS.made w).of_block (Below.heap_alloc _ _ _ (by simp))
end
section
open Go.ChangeShapes Go.WideShapes Go.ChangeAt Go.RowKit
theorem head_cells {W : World} {b m : Nat} {x y : Option Nat} (h : W.heap[b]? = some (treeO x y m)) :
  W.cell? ⟨b, 0, none⟩ = some (ptrV x) ∧ W.cell? ⟨b, 1, none⟩ = some (ptrV y) ∧ W.cell? ⟨b, 2, none⟩ = some (.map (some m)) ∧ ∀ k, W.frozen? ⟨b, k, none⟩ = false := by
 refine ⟨?_, ?_, ?_, fun k => ?_⟩ <;> simp [World.cell?, World.frozen?, h]
theorem place_cells {W : World} {p : Nat} {x : Nod} {a c : Option Nat} (h : W.heap[p]? = some (placeO x a c)) :
  W.cell? ⟨p, 0, none⟩ = some (.int .i64 x.o) ∧ W.cell? ⟨p, 1, none⟩ = some (.int .i64 x.i) ∧ W.cell? ⟨p, 2, none⟩ = some (.int .i64 x.d) ∧ W.cell? ⟨p, 3, none⟩ = some (ptrV a) ∧ W.cell? ⟨p, 4, none⟩ = some (ptrV c) ∧ ∀ k, W.frozen? ⟨p, k, none⟩ = false := by
 refine ⟨?_, ?_, ?_, ?_, ?_, fun k => ?_⟩ <;> simp [World.cell?, World.frozen?, h]
theorem has_any (w : World) (B b m n : Nat) (ps : List Nat) (l : List Nod) (f : Int → Int → Option Nat) (o i : Int) (ho : InS o) (hi : InS i) (h : TreeAt w B b m n ps l f) :
  Calls Tryz.prog 103 #[.pointer (some ⟨b, 0, none⟩), slV o i] w fun e w' => e = .returned (.bool (f o i).isSome) ∧ Below w.heap.size w w' := by
 have hm := (h.map.of_block (W' := w.alloc (.cells #[.int .i64 o, .int .i64 i] 30)) (Below.heap_alloc _ _ _ h.map.lt)).look ho hi
 obtain ⟨c0, c1, c2, hz⟩ := head_cells h.head
 have hlt : b < w.heap.size := h.lt (.inl rfl)
 have hl : ∀ W : World, W = (w.alloc (.cells #[.int .i64 o, .int .i64 i] 30)).drew → (Instr.lookup 120 (.map (some m)) (slV o i) false).run Tryz.prog W = .ok (ptrV (f o i)) W := by
  rintro W rfl
  exact ((h.map.of_block (W' := (w.alloc (.cells #[.int .i64 o, .int .i64 i] 30)).drew) (Below.heap_alloc _ _ _ h.map.lt)).look ho hi)
 have hl2 := hl _ rfl
 clear h hm hl
 cases hf : f o i
 all_goals
  rw [hf] at hl2
  simp only [ptrV] at hl2
  go_enter Tryz.func103, Tryz.ntmps103
  go_upto_region 1 with fail
  go_region
  all_goals go_wp2
  all_goals go_ret
  all_goals exact ⟨rfl, (bal (Below.refl _ _) _).drew⟩
end
section
open Go.ChangeShapes Go.WideShapes Go.ChangeAt Go.RowKit
section
variable {α : Type}
theorem ins_lo {a : List α} {q k : Nat} {x : α} (h : k < q) : (a.insertIdx q x)[k]? = a[k]? := by
 rw [List.getElem?_insertIdx, if_pos h]
theorem ins_at {a : List α} {q : Nat} {x : α} (h : q ≤ a.length) : (a.insertIdx q x)[q]? = some x := by
 rw [List.getElem?_insertIdx, if_neg (by omega), if_pos rfl, if_pos h]
theorem ins_hi {a : List α} {q k : Nat} {x : α} (h : q ≤ k) : (a.insertIdx q x)[k + 1]? = a[k]? := by
 rw [List.getElem?_insertIdx, if_neg (by omega), if_neg (by omega)]
 rfl
theorem ins_get {a : List α} {q k : Nat} {x y : α} (hq : q ≤ a.length) (h : (a.insertIdx q x)[k]? = some y) :
  (k < q ∧ a[k]? = some y) ∨ (k = q ∧ y = x) ∨ (∃ j, k = j + 1 ∧ q ≤ j ∧ a[j]? = some y) := by
 rcases Nat.lt_trichotomy k q with e | rfl | e
 ·rw [ins_lo e] at h
  exact .inl ⟨e, h⟩
 ·rw [ins_at hq] at h
  exact .inr (.inl ⟨rfl, (Option.some.inj h).symm⟩)
 ·obtain ⟨j, rfl⟩ : ∃ j, k = j + 1 := ⟨k - 1, by omega⟩
  rw [ins_hi (by omega)] at h
  exact .inr (.inr ⟨j, rfl, by omega, h⟩)
end
theorem prv_ins_lo {ps : List Nat} {q k p : Nat} (h : k ≤ q) : prv (ps.insertIdx q p) k = prv ps k := by
 cases k with
 | zero => rfl
 | succ k => exact ins_lo (by omega)
theorem prv_ins_hi {ps : List Nat} {q k p : Nat} (h : q < k) : prv (ps.insertIdx q p) (k + 1) = prv ps k := by
 obtain ⟨j, rfl⟩ : ∃ j, k = j + 1 := ⟨k - 1, by omega⟩
 exact ins_hi (by omega)
theorem prv_ins_at {ps : List Nat} {q p : Nat} (h : q ≤ ps.length) : prv (ps.insertIdx q p) (q + 1) = some p := ins_at h
theorem finds_none {ps : List Nat} {l : List Nod} {f : Int → Int → Option Nat} {o i : Int} (h : Finds ps l f) (hl : ps.length = l.length) (ho : InS o) (hi : InS i) (hf : f o i = none) {k : Nat} {y : Nod} (hk : l[k]? = some y) : ¬ (y.o = o ∧ y.i = i) := by
 intro e
 have hlt : k < ps.length := by rw [hl]; exact (lgs hk).1
 have := (h o i _ ho hi).2 ⟨k, y, List.getElem?_eq_getElem hlt, hk, e⟩
 rw [hf] at this
 cases this
theorem ins_tree {w W : World} {B b m n : Nat} {ps : List Nat} {l : List Nod} {f : Int → Int → Option Nat} {p q : Nat} {x : Nod} (h : TreeAt w B b m n ps l f) (hq : q ≤ ps.length) (hpn : ∀ k : Nat, ps[k]? ≠ some p) (hB : B ≤ p)
  (hx : InS x.o ∧ InS x.i ∧ 0 ≤ x.d ∧ x.d ≤ (n + 1 : Nat)) (hf : f x.o x.i = none)
  (hp : W.heap[p]? = some (placeO x (prv ps q) ps[q]?))
  (hb : W.heap[b]? = some (treeO (if q = 0 then some p else ps[0]?) (if q = ps.length then some p else prv ps ps.length) m))
  (hpv : ∀ (k r : Nat) (y : Nod), q = k + 1 → ps[k]? = some r → l[k]? = some y → W.heap[r]? = some (placeO y (prv ps k) (some p)))
  (hnx : ∀ (r : Nat) (y : Nod), ps[q]? = some r → l[q]? = some y → W.heap[r]? = some (placeO y (some p) ps[q + 1]?))
  (hot : ∀ k r : Nat, ps[k]? = some r → k ≠ q → k + 1 ≠ q → W.heap[r]? = w.heap[r]?)
  (hm : MapS W m (n + 1) (fput f x.o x.i p)) : TreeAt W B b m (n + 1) (ps.insertIdx q p) (l.insertIdx q x) (fput f x.o x.i p) := by
 have hql : q ≤ l.length := h.len ▸ hq
 have hl1 : (ps.insertIdx q p).length = ps.length + 1 := by rw [List.length_insertIdx]; simp [hq]
 have hl2 : (l.insertIdx q x).length = l.length + 1 := by rw [List.length_insertIdx]; simp [hql]
 have hno := fun k y (hk : l[k]? = some y) => finds_none h.finds h.len hx.1 hx.2.1 hf hk
 refine ⟨by rw [hl1, hl2, h.len], by rw [hl2]; have := h.le; omega, ?_, ?_, ?_, h.gb, h.gm, ?_, ?_, ?_, hm, ?_⟩
 ·rw [hb, hl1]
  congr 2
  ·by_cases e : q = 0
   ·subst e; rw [if_pos rfl, ins_at (Nat.zero_le _)]
   ·rw [if_neg e, ins_lo (by omega)]
  ·by_cases e : q = ps.length
   ·subst e; rw [if_pos rfl, prv_ins_at (Nat.le_refl _)]
   ·rw [if_neg e, prv_ins_hi (by omega)]
 ·intro k r y hk hy
  rcases ins_get hq hk with ⟨e, hr⟩ | ⟨rfl, rfl⟩ | ⟨j, rfl, hj, hr⟩
  ·rw [ins_lo e] at hy
   rw [prv_ins_lo (by omega)]
   by_cases e2 : k + 1 = q
   ·subst e2
    rw [ins_at hq]
    exact hpv k r y rfl hr hy
   ·rw [ins_lo (by omega)]
    exact (hot k r hr (by omega) e2).trans (h.row k r y hr hy)
  ·rw [ins_at hql] at hy
   cases hy
   rw [prv_ins_lo (Nat.le_refl _), ins_hi (Nat.le_refl _)]
   exact hp
  ·rw [ins_hi hj] at hy
   rw [ins_hi (by omega)]
   by_cases e2 : j = q
   ·subst e2
    rw [prv_ins_at hq]
    exact hnx r y hr hy
   ·rw [prv_ins_hi (by omega)]
    exact (hot j r hr e2 (by omega)).trans (h.row j r y hr hy)
 ·intro k j r hk hj
  rcases ins_get hq hk with ⟨e, hr⟩ | ⟨rfl, rfl⟩ | ⟨k, rfl, e, hr⟩ <;> rcases ins_get hq hj with ⟨e', hr'⟩ | ⟨rfl, e'⟩ | ⟨j, rfl, e', hr'⟩
  ·exact h.inj _ _ _ hr hr'
  ·exact absurd (e' ▸ hr) (hpn _)
  ·have := h.inj _ _ _ hr hr'; omega
  ·exact absurd hr' (hpn _)
  ·rfl
  ·exact absurd hr' (hpn _)
  ·have := h.inj _ _ _ hr hr'; omega
  ·exact absurd (e' ▸ hr) (hpn _)
  ·rw [h.inj _ _ _ hr hr']
 ·intro k r hk
  rcases ins_get hq hk with ⟨e, hr⟩ | ⟨rfl, rfl⟩ | ⟨k, rfl, e, hr⟩
  ·exact h.gp _ _ hr
  ·exact hB
  ·exact h.gp _ _ hr
 ·intro k j y z hk hj h1 h2
  rcases ins_get hql hk with ⟨e, hr⟩ | ⟨rfl, rfl⟩ | ⟨k, rfl, e, hr⟩ <;> rcases ins_get hql hj with ⟨e', hr'⟩ | ⟨rfl, rfl⟩ | ⟨j, rfl, e', hr'⟩
  ·exact h.slots _ _ _ _ hr hr' h1 h2
  ·exact absurd ⟨h1, h2⟩ (hno _ _ hr)
  ·have := h.slots _ _ _ _ hr hr' h1 h2; omega
  ·exact absurd ⟨h1.symm, h2.symm⟩ (hno _ _ hr')
  ·rfl
  ·exact absurd ⟨h1.symm, h2.symm⟩ (hno _ _ hr')
  ·have := h.slots _ _ _ _ hr hr' h1 h2; omega
  ·exact absurd ⟨h1, h2⟩ (hno _ _ hr)
  ·rw [h.slots _ _ _ _ hr hr' h1 h2]
 ·intro k y hk
  have hi := fun k y (q : l[k]? = some y) => h.ins k y q
  rcases ins_get hql hk with ⟨e, hr⟩ | ⟨rfl, rfl⟩ | ⟨k, rfl, e, hr⟩
  ·obtain ⟨a, b, c, d⟩ := hi _ _ hr; exact ⟨a, b, c, by omega⟩
  ·exact hx
  ·obtain ⟨a, b, c, d⟩ := hi _ _ hr; exact ⟨a, b, c, by omega⟩
 ·intro o i r ho hi
  unfold fput
  constructor
  ·intro hr
   split at hr
   ·rename_i e
    cases hr
    exact ⟨q, x, ins_at hq, ins_at hql, e.1.symm, e.2.symm⟩
   ·obtain ⟨k, y, h1, h2, h3⟩ := (h.finds o i r ho hi).1 hr
    by_cases e : k < q
    ·exact ⟨k, y, (ins_lo e).trans h1, (ins_lo e).trans h2, h3⟩
    ·exact ⟨k + 1, y, (ins_hi (by omega)).trans h1, (ins_hi (by omega)).trans h2, h3⟩
  ·rintro ⟨k, y, h1, h2, h3⟩
   rcases ins_get hql h2 with ⟨e, hr⟩ | ⟨rfl, rfl⟩ | ⟨k, rfl, e, hr⟩
   ·rw [ins_lo e] at h1
    rw [if_neg (fun q => hno _ _ hr ⟨h3.1.trans q.1, h3.2.trans q.2⟩)]
    exact (h.finds o i r ho hi).2 ⟨k, y, h1, hr, h3⟩
   ·rw [ins_at hq] at h1
    rw [if_pos ⟨h3.1.symm, h3.2.symm⟩]
    exact h1
   ·rw [ins_hi e] at h1
    rw [if_neg (fun q => hno _ _ hr ⟨h3.1.trans q.1, h3.2.trans q.2⟩)]
    exact (h.finds o i r ho hi).2 ⟨k, y, h1, hr, h3⟩
end
section
open Go.ChangeShapes Go.WideShapes Go.ChangeAt Go.RowKit Go.MapKept Go.ChangeMaps
def insW (w : World) (p : Nat) (A C : Addr) (v1 v2 : Value) : World :=
 (((w.setCell ⟨p, 3, none⟩ v1).setCell ⟨p, 4, none⟩ v2).setCell A (.pointer (some ⟨p, 0, none⟩))).setCell C (.pointer (some ⟨p, 0, none⟩))
theorem insW_p {w : World} {p : Nat} {A C : Addr} {x : Nod} {a c a' c' : Option Nat} (h : w.heap[p]? = some (placeO x a c)) (hA : p ≠ A.block) (hC : p ≠ C.block) : (insW w p A C (ptrV a') (ptrV c')).heap[p]? = some (placeO x a' c') := by
 unfold insW
 rw [Go.heap_setCell_other _ _ _ _ hC, Go.heap_setCell_other _ _ _ _ hA]
 have e1 := Go.heap_setCell_same _ _ 3 _ _ (ptrV a') h
 exact Go.heap_setCell_same _ _ 4 _ _ (ptrV c') e1
theorem insW_other {w : World} {p k : Nat} {A C : Addr} {v1 v2 : Value} (h1 : k ≠ p) (hA : k ≠ A.block) (hC : k ≠ C.block) : (insW w p A C v1 v2).heap[k]? = w.heap[k]? := by
 unfold insW
 rw [Go.heap_setCell_other _ _ _ _ hC, Go.heap_setCell_other _ _ _ _ hA, Go.heap_setCell_other _ _ _ _ h1, Go.heap_setCell_other _ _ _ _ h1]
theorem insW_A {w : World} {p b i : Nat} {C : Addr} {v1 v2 : Value} {cs : Array Value} {t : TypeId} (h : w.heap[b]? = some (.cells cs t (0, 0))) (h1 : b ≠ p) (hC : b ≠ C.block) :
  (insW w p ⟨b, i, none⟩ C v1 v2).heap[b]? = some (.cells (cs.setIfInBounds i (.pointer (some ⟨p, 0, none⟩))) t (0, 0)) := by
 unfold insW
 rw [Go.heap_setCell_other _ _ _ _ hC]
 refine Go.heap_setCell_same _ _ _ _ _ _ ?_
 rw [Go.heap_setCell_other _ _ _ _ h1, Go.heap_setCell_other _ _ _ _ h1]
 exact h
theorem insW_C {w : World} {p b i : Nat} {A : Addr} {v1 v2 : Value} {cs : Array Value} {t : TypeId} (h : w.heap[b]? = some (.cells cs t (0, 0))) (h1 : b ≠ p) (hA : b ≠ A.block) :
  (insW w p A ⟨b, i, none⟩ v1 v2).heap[b]? = some (.cells (cs.setIfInBounds i (.pointer (some ⟨p, 0, none⟩))) t (0, 0)) := by
 unfold insW
 refine Go.heap_setCell_same _ _ _ _ _ _ ?_
 rw [Go.heap_setCell_other _ _ _ _ hA, Go.heap_setCell_other _ _ _ _ h1, Go.heap_setCell_other _ _ _ _ h1]
 exact h
theorem insW_AC {w : World} {p b i j : Nat} {v1 v2 : Value} {cs : Array Value} {t : TypeId} (h : w.heap[b]? = some (.cells cs t (0, 0))) (h1 : b ≠ p) :
  (insW w p ⟨b, i, none⟩ ⟨b, j, none⟩ v1 v2).heap[b]? = some (.cells ((cs.setIfInBounds i (.pointer (some ⟨p, 0, none⟩))).setIfInBounds j (.pointer (some ⟨p, 0, none⟩))) t (0, 0)) := by
 unfold insW
 refine Go.heap_setCell_same _ _ _ _ _ _ (Go.heap_setCell_same _ _ _ _ _ _ ?_)
 rw [Go.heap_setCell_other _ _ _ _ h1, Go.heap_setCell_other _ _ _ _ h1]
 exact h
theorem head_place {w : World} {b p m : Nat} {x : Nod} {a c u v : Option Nat} (h : w.heap[b]? = some (treeO a c m)) (k : w.heap[p]? = some (placeO x u v)) : b ≠ p := by
 rintro rfl
 rw [h] at k
 injection k with k
 injection k with _ k _
 exact absurd k (by decide)
theorem map_head {w : World} {b m n q : Nat} {f : Int → Int → Option Nat} {a c : Option Nat} (h : w.heap[b]? = some (treeO a c q)) (k : MapS w m n f) : m ≠ b := by
 rintro rfl
 obtain ⟨es, cl, e⟩ := k.obj
 rw [h] at e
 cases e
theorem map_place {w : World} {p m n : Nat} {f : Int → Int → Option Nat} {x : Nod} {a c : Option Nat} (h : w.heap[p]? = some (placeO x a c)) (k : MapS w m n f) : m ≠ p := by
 rintro rfl
 obtain ⟨es, cl, e⟩ := k.obj
 rw [h] at e
 cases e
structure InsPost (w w' : World) (B b m n : Nat) (ps : List Nat) (l : List Nod) (f : Int → Int → Option Nat) (p q : Nat) (x : Nod) : Prop where
 tree : TreeAt w' B b m (n + 1) (ps.insertIdx q p) (l.insertIdx q x) (fput f x.o x.i p)
 os : w'.os = w.os
 tape : w'.tape = w.tape
 output : w'.output = w.output
 size : w'.heap.size = w.heap.size
 block : ∀ k, ¬ foot b m ps k → k ≠ p → w'.heap[k]? = w.heap[k]?
theorem ins_post {w W W' : World} {B b m n : Nat} {ps : List Nat} {l : List Nod} {f : Int → Int → Option Nat} {p q : Nat} {x : Nod} {A C : Addr} (hW : W = insW w p A C (ptrV (prv ps q)) (ptrV ps[q]?)) (ht : W.drew.mapTurned W' m) (hA : foot b m ps A.block) (hC : foot b m ps C.block)
  (hT : TreeAt W' B b m (n + 1) (ps.insertIdx q p) (l.insertIdx q x) (fput f x.o x.i p)) : InsPost w W' B b m n ps l f p q x := by
 obtain ⟨es, c, es', c', hb, rfl⟩ := ht
 refine ⟨hT, ?_, ?_, ?_, ?_, ?_⟩
 ·rw [hW]; simp [setBlock, insW, World.drew, World.setCell]
 ·rw [hW]; simp [setBlock, insW, World.drew, World.setCell]
 ·rw [hW]; simp [setBlock, insW, World.drew, World.setCell]
 ·rw [hW]; simp [setBlock, insW, World.drew, World.setCell]
 ·intro k hk hp
  refine (heap_setBlock_other hb _ (fun e => hk (.inr (.inl e)))).trans ?_
  rw [hW]
  exact insW_other hp (fun e => hk (e ▸ hA)) (fun e => hk (e ▸ hC))
theorem foot_at {b m k p : Nat} {ps : List Nat} (h : ps[k]? = some p) : foot b m ps p := .inr (.inr ⟨k, h⟩)
theorem turned_block {W W' : World} {m k : Nat} (h : W.drew.mapTurned W' m) (hk : k ≠ m) : W'.heap[k]? = W.heap[k]? := by
 obtain ⟨es, c, es', c', hb, rfl⟩ := h
 exact heap_setBlock_other hb _ hk
end
end Go.Proofs.YtchjfeafkmpmbaaGreatDoor
