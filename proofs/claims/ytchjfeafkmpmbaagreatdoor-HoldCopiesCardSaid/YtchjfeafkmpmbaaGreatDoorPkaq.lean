import Derived.Test.YtchjfeafkmpmbaaGreatDoorPkap
import Derived.Maps.AppendAt
import Derived.Stop.RegionWithIn
import Derived.Deep.RegionHeld3
import Derived.Deep.QuietTactic
import Derived.BigQuiet
namespace Go.Proofs.YtchjfeafkmpmbaaGreatDoor
set_option linter.unusedVariables false
set_option linter.unusedSimpArgs false
set_option maxRecDepth 100000
set_option maxHeartbeats 8000000
open Lib (hid)
section
open Go.ChangeShapes Go.WideShapes Go.ChangeAt Go.RowKit
theorem found {W : World} {B b m n : Nat} {ps : List Nat} {l : List Nod} {f : Int → Int → Option Nat} (h : TreeAt W B b m n ps l f) {o i : Int} (ho : InS o) (hi : InS i) :
  ∃ x : Nod, ∃ u v : Option Nat, ∀ p, f o i = some p → W.heap[p]? = some (placeO x u v) ∧ ∃ k : Nat, ps[k]? = some p ∧ l[k]? = some x ∧ x.o = o ∧ x.i = i ∧ u = prv ps k ∧ v = ps[k + 1]? := by
 cases hf : f o i with
 | none => exact ⟨⟨0, 0, 0⟩, none, none, fun p e => by cases e⟩
 | some p =>
  obtain ⟨k, x, h1, h2, h3, h4⟩ := (h.finds o i p ho hi).1 hf
  refine ⟨x, prv ps k, ps[k + 1]?, fun q e => ?_⟩
  cases e
  exact ⟨h.row k p x h1 h2, k, h1, h2, h3, h4, rfl, rfl⟩
theorem swap_end {w w1 w2 w3 : World} {B b m n : Nat} {ps : List Nat} {l : List Nod} {f : Int → Int → Option Nat} {o i p j : Int} {x y y' : Nod} {u v u' v' : Option Nat} (ho : InS o) (hi : InS i) (hp : InS p) (hj : InS j) (h : TreeAt w B b m n ps l f)
  (hb : Below w.heap.size w w1)
  (hx : ∀ r, f o i = some r → w.heap[r]? = some (placeO x u v) ∧ ∃ k : Nat, ps[k]? = some r ∧ l[k]? = some x ∧ x.o = o ∧ x.i = i ∧ u = prv ps k ∧ v = ps[k + 1]?)
  (hy : ∀ r, f p j = some r → w.heap[r]? = some (placeO y u' v') ∧ ∃ k : Nat, ps[k]? = some r ∧ l[k]? = some y ∧ y.o = p ∧ y.i = j ∧ u' = prv ps k ∧ v' = ps[k + 1]?)
  (hy' : y'.d = y.d) (q1 : PutPost w1 w2 m n f (f o i) x u v p j) (q2 : PutPost w2 w3 m (n + 1) (fset f p j (f o i)) (f p j) y' u' v' o i) : Left w w3 B b m (n + 1 + 1) ps (swapA l o i p j) := by
 have hml := h.map.lt
 have hbl : b < w.heap.size := h.lt (.inl rfl)
 have hbm := map_head h.head h.map
 have sz1 := hb.size
 have sz2 := q1.size
 have sz3 := q2.size
 have hk : ∀ k, k < w.heap.size → k ≠ m → f o i ≠ some k → f p j ≠ some k → w3.heap[k]? = w.heap[k]? := fun k hk h1 h2 h3 =>
  (q2.block k (by omega) h1 h3).trans ((q1.block k (by omega) h1 h2).trans (hb.block k hk))
 have hnb : ∀ (r : Nat), f o i = some r ∨ f p j = some r → r ≠ b := by
  rintro r (hr | hr) rfl
  ·exact head_place h.head (hx _ hr).1 rfl
  ·exact head_place h.head (hy _ hr).1 rfl
 refine ⟨ps, _, swap_tree ho hi hp hj h ?_ ?_ q2.map, ?_⟩
 ·exact hk b hbl hbm.symm (fun e => hnb b (.inl e) rfl) (fun e => hnb b (.inr e) rfl)
 ·intro k r z hr hz
  have hrw := h.row k r z hr hz
  have hrl : r < w.heap.size := h.lt (foot_at hr)
  have hrm : r ≠ m := (map_place hrw h.map).symm
  by_cases e2 : f p j = some r
  ·obtain ⟨_, k', a1, a2, a3, a4, a5, a6⟩ := hy r e2
   obtain rfl := h.inj _ _ _ a1 hr
   rw [hz] at a2
   cases a2
   rw [q2.at_ r e2, a5, a6, hy']
   have : sw o i p j y = ⟨o, i, y.d⟩ := by
    unfold sw
    split
    ·rename_i hc
     rw [a3, a4] at hc
     rw [hc.1, hc.2]
    ·rw [if_pos ⟨a3, a4⟩]
   rw [this]
  ·by_cases e1 : f o i = some r
   ·obtain ⟨_, k', a1, a2, a3, a4, a5, a6⟩ := hx r e1
    obtain rfl := h.inj _ _ _ a1 hr
    rw [hz] at a2
    cases a2
    rw [q2.block r (by omega) hrm e2, q1.at_ r e1, a5, a6]
    have : sw o i p j x = ⟨p, j, x.d⟩ := by
     unfold sw
     rw [if_pos ⟨a3, a4⟩]
    rw [this]
   ·rw [hk r hrl hrm e1 e2, hrw]
    obtain ⟨z1, z2, _⟩ := h.ins k z hz
    have : sw o i p j z = z := by
     unfold sw
     rw [if_neg (fun e => e1 ((h.finds o i r ho hi).2 ⟨k, z, hr, hz, e⟩)), if_neg (fun e => e2 ((h.finds p j r hp hj).2 ⟨k, z, hr, hz, e⟩))]
    rw [this]
 ·refine ⟨q2.os.trans (q1.os.trans hb.os), q2.tape.trans (q1.tape.trans hb.tape), q2.output.trans (q1.output.trans hb.output), by omega, fun k hkl hf => ?_, fun k _ h => h⟩
  refine hk k hkl (fun e => hf (.inr (.inl e))) (fun e => ?_) (fun e => ?_)
  ·obtain ⟨_, k', a1, _⟩ := hx k e
   exact hf (foot_at a1)
  ·obtain ⟨_, k', a1, _⟩ := hy k e
   exact hf (foot_at a1)
def moveA (l : List Nod) (o i p j : Int) : List Nod × Int := if (idx l o i).isSome then (if (idx l p j).isSome then (l, 11) else (swapA l o i p j, 0)) else (l, 10)
structure Sl2 (W : World) (s : Nat) (o i : Int) : Prop where
 c0 : W.cell? ⟨s, 0, none⟩ = some (.int .i64 o)
 c1 : W.cell? ⟨s, 1, none⟩ = some (.int .i64 i)
 lt : s < W.heap.size
theorem Sl2.call {W W' : World} {s : Nat} {o i : Int} (h : Sl2 W s o i) (hb : Below W.heap.size W W') : Sl2 W' s o i :=
 ⟨(hb.cell (p := ⟨s, 0, none⟩) h.lt).trans h.c0, (hb.cell (p := ⟨s, 1, none⟩) h.lt).trans h.c1, Nat.lt_of_lt_of_le h.lt hb.size⟩
theorem Sl2.of_block {W W' : World} {s : Nat} {o i : Int} (h : Sl2 W s o i) (e : W'.heap[s]? = W.heap[s]?) (hs : W.heap.size ≤ W'.heap.size) : Sl2 W' s o i := by
 have q : ∀ k, W'.cell? ⟨s, k, none⟩ = W.cell? ⟨s, k, none⟩ := fun k => by unfold World.cell?; simp only [e]
 exact ⟨(q 0).trans h.c0, (q 1).trans h.c1, Nat.lt_of_lt_of_le h.lt hs⟩
theorem Sl2.fresh (W : World) (o i : Int) : Sl2 (W.alloc (slO o i)) W.heap.size o i := by
 have hb := World.alloc_heap_new W (slO o i)
 refine ⟨?_, ?_, by simp⟩ <;> (unfold World.cell?; simp only [hb]; rfl)
theorem Sl2.fresh2 (W : World) (o i p j : Int) : Sl2 ((W.alloc (slO o i)).alloc (slO p j)) W.heap.size o i ∧ Sl2 ((W.alloc (slO o i)).alloc (slO p j)) (W.heap.size + 1) p j := by
 refine ⟨(Sl2.fresh W o i).call (bal (Below.refl _ _) _), ?_⟩
 have := Sl2.fresh (W.alloc (slO o i)) p j
 rw [World.size_alloc] at this
 exact this
theorem swap_slot {w w1 w2 : World} {B b m n : Nat} {ps : List Nat} {l : List Nod} {f : Int → Int → Option Nat} {o i p j : Int} {x : Nod} {u v fo : Option Nat} (h : TreeAt w B b m n ps l f) (hb : Below w.heap.size w w1)
  (hx : ∀ r, fo = some r → w.heap[r]? = some (placeO x u v) ∧ ∃ k : Nat, ps[k]? = some r ∧ l[k]? = some x ∧ x.o = o ∧ x.i = i ∧ u = prv ps k ∧ v = ps[k + 1]?) (hfo : f o i = fo)
  (hs : Sl2 w1 w.heap.size o i) (q1 : PutPost w1 w2 m n f fo x u v p j) : Sl2 w2 w.heap.size o i := by
 refine hs.of_block (q1.block _ hs.lt ?_ ?_) q1.size
 ·have := h.map.lt; omega
 ·intro e
  obtain ⟨_, k, a1, _⟩ := hx _ e
  have := h.lt (foot_at (b := b) (m := m) a1)
  omega
theorem swap_second {w w1 w2 : World} {B b m n : Nat} {ps : List Nat} {l : List Nod} {f : Int → Int → Option Nat} {o i p j : Int} {x y : Nod} {u v u' v' fo fp : Option Nat} (ho : InS o) (hi : InS i) (hp : InS p) (hj : InS j) (h : TreeAt w B b m n ps l f) (hb : Below w.heap.size w w1)
  (hx : ∀ r, fo = some r → w.heap[r]? = some (placeO x u v) ∧ ∃ k : Nat, ps[k]? = some r ∧ l[k]? = some x ∧ x.o = o ∧ x.i = i ∧ u = prv ps k ∧ v = ps[k + 1]?)
  (hy : ∀ r, fp = some r → w.heap[r]? = some (placeO y u' v') ∧ ∃ k : Nat, ps[k]? = some r ∧ l[k]? = some y ∧ y.o = p ∧ y.i = j ∧ u' = prv ps k ∧ v' = ps[k + 1]?)
  (hfo : f o i = fo) (hfp : f p j = fp) (hn : n < 1000000) (q1 : PutPost w1 w2 m n f fo x u v p j) :
  Calls Tryz.prog 113 #[.pointer (some ⟨b, 0, none⟩), ptrV fp, slV o i] w2 fun e w' => (∃ v, e = .returned v) ∧ PutPost w2 w' m (n + 1) (fset f p j fo) fp y u' v' o i := by
 have hbm := map_head h.head h.map
 have hbl : b < w.heap.size := h.lt (.inl rfl)
 have sz := hb.size
 refine put_any w2 b m (n + 1) (fset f p j fo) fp y u' v' ps[0]? (prv ps ps.length) o i ho hi ?_ q1.map (by unfold maxLen; omega) ?_
 ·refine (q1.block b (by omega) hbm.symm ?_).trans ((hb.block b hbl).trans h.head)
  intro e
  exact head_place h.head (hx b e).1 rfl
 ·intro r e
  obtain ⟨hr, k, a1, a2, a3, a4, a5, a6⟩ := hy r e
  have hrl : r < w.heap.size := h.lt (foot_at a1)
  by_cases e1 : fo = some r
  ·obtain ⟨_, k', c1, c2, c3, c4, c5, c6⟩ := hx r e1
   obtain rfl := h.inj _ _ _ a1 c1
   rw [a2] at c2
   cases c2
   rw [q1.at_ r e1, c5, c6, a5, a6]
   obtain ⟨yo, yi, yd⟩ := x
   simp only at a3 a4
   rw [a3, a4]
  ·exact (q1.block r (by omega) (map_place hr h.map).symm e1).trans ((hb.block r hrl).trans hr)
theorem swap_any (w : World) (B b m n : Nat) (ps : List Nat) (l : List Nod) (f : Int → Int → Option Nat) (o i p j : Int) (ho : InS o) (hi : InS i) (hp : InS p) (hj : InS j) (h : TreeAt w B b m n ps l f) (hn : n < 1000000) :
    Calls Tryz.prog 91 #[.pointer (some ⟨b, 0, none⟩), slV o i, slV p j] w fun e w' => e = .returned (.int .i64 0) ∧ Left w w' B b m (n + 1 + 1) ps (swapA l o i p j) := by
  have hal : Below w.heap.size w ((w.alloc (slO o i)).alloc (slO p j)).drew := (bal (bal (Below.refl _ _) _) _).drew
  have HA := hid hal
  have hl1 := h.look (W := ((w.alloc (slO o i)).alloc (slO p j)).drew) (hal.block m (h.lt (.inr (.inl rfl)))) ho hi
  have hl2 := h.look (W := ((w.alloc (slO o i)).alloc (slO p j)).drew) (hal.block m (h.lt (.inr (.inl rfl)))) hp hj
  obtain ⟨c0, c1, c2, cz⟩ := head_cells h.head
  have hbl : b < w.heap.size := h.lt (.inl rfl)
  obtain ⟨x, u, v, hx⟩ := found h ho hi
  obtain ⟨y, u', v', hy⟩ := found h hp hj
  have H := hid h
  have HX := hid hx
  have HY := hid hy
  clear h hal hx hy
  go_enter Tryz.func91, Tryz.ntmps91
  go_upto_region 3 with fail
  go_region
  all_goals
    have hbb : Below w.heap.size w ((w.alloc (slO o i)).alloc (slO p j)).drew := HA.out
    have hS := Sl2.fresh2 w o i p j
    have hput := fun hh hm hx' => put_any ((w.alloc (slO o i)).alloc (slO p j)).drew b m n f (f o i) x u v ps[0]? (prv ps ps.length) p j hp hj hh hm (by unfold maxLen; omega) hx'
    have HPUT := hid (hput ((hbb.block b hbl).trans H.out.head) (H.out.map.of_block (hbb.block m (H.out.lt (.inr (.inl rfl))))) (fun r e => (hbb.block r (by
        obtain ⟨_, k, a1, _⟩ := HX.out r e
        exact H.out.lt (foot_at a1))).trans (HX.out r e).1))
    have HS := hid hS
    clear hbb hput hS hl1 hl2 c0 c1 c2 cz
    generalize hfo : f o i = fo at *
    generalize hfp : f p j = fp at *
    have HFO := hid hfo
    have HFP := hid hfp
    clear hfo hfp
    go_wp2_with (first
      | (go_at_call 113; with_reducible refine HPUT2.out.mono ?_; rintro e w3 ⟨⟨v9, rfl⟩, q2⟩; have HQ2 := hid q2; clear q2)
      | (go_at_call 113; with_reducible refine HPUT.out.mono ?_; rintro e w2 ⟨⟨v8, rfl⟩, q1⟩; have HQ1 := hid q1; clear q1;
         have HPUT2 := hid (swap_second ho hi hp hj H.out HA.out HX.out HY.out HFO.out HFP.out hn HQ1.out);
         obtain ⟨a0, a1, alt⟩ := swap_slot H.out HA.out HX.out HFO.out (HS.out.1.call (Below.drew (Below.refl _ _))) HQ1.out))
    go_ret
    refine ⟨rfl, ?_⟩
    have hfo := HFO.out
    have hfp := HFP.out
    subst hfo hfp
    exact swap_end ho hi hp hj H.out HA.out HX.out HY.out rfl HQ1.out HQ2.out
end
section
open Go.ChangeShapes Go.WideShapes Go.ChangeAt Go.RowKit Go.Shelf
attribute [local go_sem] Oper.semAt_some
abbrev sltC (x : Nod) : List Value := [.int .i64 x.o, .int .i64 x.i]
def slsC (l : List Nod) : List Value := l.flatMap sltC
theorem slsC_snoc (l : List Nod) (x : Nod) : slsC (l ++ [x]) = slsC l ++ sltC x := by simp [slsC]
theorem infoSl : (Tryz.prog.info? 30).map (fun i => (i.zero, i.size, i.bytes)) = some (some (.agg #[.int .i64 0, .int .i64 0]), 2, 16) := by kernel_rfl
def belowA (l : List Nod) (o i : Int) : List Nod :=
 match idx l o i with
 | none => []
 | some k => (l.drop (k + 1)).take (belowN l k)
theorem own_kept {A C : World} {base : Nat} {e : TypeId} {s : Nat} {v : Value} {n : Nat} {xs : List Value} {row : Option Nat} (h : A.ownsRow base e s v n xs) (hg : A.grownBy C row) (hr : ∀ r, row = some r → ∃ o : Obj, A.heap[r]? = some o ∧ o.isCells = false) : C.ownsRow base e s v n xs := by
 have hlt := h.lt
 refine ⟨h.1, ?_⟩
 rcases h.2 with h2 | ⟨g, cap, cur, rfl, q1, q2, q3⟩
 ·exact .inl h2
 ·refine .inr ⟨g, cap, cur, rfl, q1, (hg.block g (hlt g rfl).2 (fun e => ?_)).trans q2, q3⟩
  obtain ⟨o, ho, hc⟩ := hr g e.symm
  rw [q2] at ho
  cases ho
  cases hc
theorem own_block {A C : World} {base : Nat} {e : TypeId} {s : Nat} {v : Value} {n : Nat} {xs : List Value} (h : A.ownsRow base e s v n xs) (k : ∀ g, v.ownBlock = some g → C.heap[g]? = A.heap[g]?) : C.ownsRow base e s v n xs := by
 refine ⟨h.1, ?_⟩
 rcases h.2 with h2 | ⟨g, cap, cur, rfl, q1, q2, q3⟩
 ·exact .inl h2
 ·exact .inr ⟨g, cap, cur, rfl, q1, (k g rfl).trans q2, q3⟩
structure BelI (w1 : World) (ps : List Nat) (l : List Nod) (k p : Nat) (pre : List Nat) (W : World) : Prop where
 list : ∃ v, W.heap[w1.heap.size]? = some (.cells #[v] 55 (0, 0)) ∧ W.ownsRow (w1.heap.size + 2) 30 2 v pre.length (slsC ((l.drop (k + 1)).take pre.length))
 box : W.heap[w1.heap.size + 1]? = some (.cells #[.pointer (some ⟨p, 0, none⟩)] 119 (0, 0))
 lt : w1.heap.size + 2 ≤ W.heap.size
 below : Below w1.heap.size w1 W
theorem BelI.own {w1 : World} {ps : List Nat} {l : List Nod} {k p : Nat} : OwnFrom (w1.heap.size + 2) (BelI w1 ps l k p) := by
 intro s A C row h hg hr
 have e : ∀ j, j < w1.heap.size + 2 → C.heap[j]? = A.heap[j]? := fun j hj => hg.block j (Nat.lt_of_lt_of_le hj h.lt) (fun e => by have := (hr j e.symm).1; omega)
 obtain ⟨v, hv, hrow⟩ := h.list
 exact ⟨⟨v, (e _ (by omega)).trans hv, own_kept hrow hg (fun r e => (hr r e).2)⟩, (e _ (by omega)).trans h.box, Nat.le_trans h.lt hg.size,
  ⟨hg.os.trans h.below.os, hg.tape.trans h.below.tape, hg.output.trans h.below.output, Nat.le_trans h.below.size hg.size, fun j hj => (e j (by omega)).trans (h.below.block j hj)⟩⟩
theorem BelI.rows {w1 W : World} {B b m n : Nat} {ps : List Nat} {l : List Nod} {f : Int → Int → Option Nat} {k p : Nat} {pre : List Nat} (H : TreeAt w1 B b m n ps l f) (h : BelI w1 ps l k p pre W) : Rows W ps l k pre.length (w1.heap.size + 1) p := by
 have HT := H.call h.below
 refine ⟨(cell_box h.box).1, fun j q hq => ?_, fun j q y hq hy hj => ?_⟩
 ·obtain ⟨z, hz⟩ := get_len HT.len hq
  exact (place_cells (HT.row j q z hq hz)).2.2.2.2.1
 ·exact (place_cells (HT.row j q y hq hy)).2.2.1
theorem BelI.step {w1 W w2 : World} {ps : List Nat} {l : List Nod} {k p x : Nat} {pre : List Nat} {y : Nod} {v v' : Value} {t : TypeId} (h : BelI w1 ps l k p pre W) (hy : l[k + 1 + pre.length]? = some y)
  (hv : W.heap[w1.heap.size]? = some (.cells #[v] 55 (0, 0))) (hrow : W.ownsRow (w1.heap.size + 2) 30 2 v pre.length (slsC ((l.drop (k + 1)).take pre.length)))
  (hown : w2.ownsRow (w1.heap.size + 2) 30 2 v' (pre.length + 1) (slsC ((l.drop (k + 1)).take pre.length) ++ sltC y)) (hg : (W.alloc (.cells #[.int .i64 y.o, .int .i64 y.i] t)).drew.grownBy w2 v.ownBlock) :
  BelI w1 ps l k p (pre ++ [x]) (w2.setCell ⟨w1.heap.size, 0, none⟩ v') ∧ KeepsOthers W (w2.setCell ⟨w1.heap.size, 0, none⟩ v') := by
 have hlt := h.lt
 have sz := hg.size
 simp at sz
 have hvb : ∀ j, v.ownBlock = some j → w1.heap.size + 2 ≤ j ∧ j < W.heap.size := fun j e => hrow.lt j e
 have hvb' : ∀ j, v'.ownBlock = some j → w1.heap.size + 2 ≤ j := fun j e => (hown.lt j e).1
 have e : ∀ j, j < W.heap.size → v.ownBlock ≠ some j → w2.heap[j]? = W.heap[j]? := fun j hj hn => by
  rw [hg.block j (by simp; omega) (fun q => hn q.symm)]
  exact Below.heap_alloc _ _ _ hj
 have e2 : ∀ j, j < w1.heap.size + 2 → w2.heap[j]? = W.heap[j]? := fun j hj => e j (by omega) (fun q => by have := (hvb j q).1; omega)
 have htake : (l.drop (k + 1)).take (pre.length + 1) = (l.drop (k + 1)).take pre.length ++ [y] := by
  rw [List.take_add_one, List.getElem?_drop, hy]; rfl
 refine ⟨⟨⟨v', ?_, ?_⟩, ?_, by simp; omega, ?_⟩, ?_⟩
 ·exact Go.heap_setCell_same _ _ _ _ _ _ ((e2 _ (by omega)).trans hv)
 ·rw [List.length_append, List.length_singleton, htake, slsC_snoc]
  exact own_block hown (fun g hg' => Go.heap_setCell_other _ _ _ _ (by have := hvb' g hg'; simp; omega))
 ·exact (Go.heap_setCell_other _ _ _ _ (by simp)).trans ((e2 _ (by omega)).trans h.box)
 ·refine ⟨?_, ?_, ?_, ?_, fun j hj => ?_⟩
  ·exact hg.os.trans h.below.os
  ·exact hg.tape.trans h.below.tape
  ·exact hg.output.trans h.below.output
  ·simp; omega
  ·exact (Go.heap_setCell_other _ _ _ _ (by simp; omega)).trans ((e2 j (by omega)).trans (h.below.block j hj))
 ·refine ⟨by simp; omega, fun j ob hj hc => ?_⟩
  have hjl := (ags hj).1
  have hne : j ≠ w1.heap.size := fun q => by
   rw [q, hv] at hj
   cases hj
   cases hc
  refine (Go.heap_setCell_other _ _ _ _ hne).trans ((e j hjl (fun q => ?_)).trans hj)
  rcases hrow.2 with ⟨rfl, _⟩ | ⟨g, cap, cur, rfl, _, q2, _⟩
  ·cases q
  ·cases q
   rw [q2] at hj
   cases hj
   cases hc
attribute [-go_sem] Builtin.append_
theorem own_base {A : World} {base base' : Nat} {e : TypeId} {s : Nat} {v : Value} {n : Nat} {xs : List Value} (h : A.ownsRow base e s v n xs) (hb : base' ≤ base) : A.ownsRow base' e s v n xs := by
 refine ⟨h.1, ?_⟩
 rcases h.2 with h2 | ⟨g, cap, cur, rfl, q1, q2, q3⟩
 ·exact .inl h2
 ·exact .inr ⟨g, cap, cur, rfl, by omega, q2, q3⟩
theorem below_fn_in (w : World) (B b m n : Nat) (ps : List Nat) (l : List Nod) (f : Int → Int → Option Nat) (o i : Int) (k p : Nat) (x : Nod) (ho : InS o) (hi : InS i) (h : TreeAt w B b m n ps l f) (hn : n < 1000000) (hk : ps[k]? = some p) (hx : l[k]? = some x) (hxs : x.o = o ∧ x.i = i) :
  CallsIn Fence.wide 3 Tryz.prog 67 #[.pointer (some ⟨b, 0, none⟩), slV o i] w fun e w' => ∃ v, e = .returned v ∧ w'.ownsRow w.heap.size 30 2 v ((l.drop (k + 1)).take (belowN l k)).length (slsC ((l.drop (k + 1)).take (belowN l k))) ∧ Below w.heap.size w w' := by
 have hf : f o i = some p := (h.finds o i p ho hi).2 ⟨k, x, hk, hx, hxs⟩
 have hal : Below w.heap.size w (w.alloc (slO o i)) := bal (Below.refl _ _) _
 have HA := hid hal
 have HS := hid (Sl2.fresh w o i)
 have H := hid h
 have HF := hid hf
 clear hal hf
 obtain ⟨i0, hi0, hz0, hz1, hz2⟩ := info_parts infoSl
 have HI0 := hid hi0
 clear hi0
 refine callsIn_of_wp_marks Tryz.func67 rfl trivial ?_ rfl
 simp only [Tryz.ntmps67, List.size_toArray, List.length_cons, List.length_nil, Nat.reduceAdd, Nat.reduceSub, Array.replicate_succ, Array.replicate_zero, List.push_toArray, List.append_toArray, List.nil_append, List.cons_append]
 gi_wp2_with (refine ⟨trivial, ?_⟩; gi_at_call 103; refine (callsIn_wide.2 (has_any _ B b m n ps l f o i ho hi (H.out.call HA.out))).mono ?_; rw [HF.out]; rintro e w1 ⟨rfl, hb1⟩; obtain ⟨s0, s1, sl⟩ := HS.out.call hb1; have HB1 := hid (HA.out.trans (hb1.mono HA.out.size)); have hT := H.out.call HB1.out; obtain ⟨c0, c1, c2, cz⟩ := head_cells hT.head; have hbl : b < w1.heap.size := hT.lt (.inl rfl); have hl := hT.look (W := (w1.alloc (.cells #[.slice none 0 0] 55)).drew) (Below.heap_alloc _ _ _ hT.map.lt) ho hi; rw [HF.out] at hl; simp only [ptrV] at hl; have HT := hid hT; clear hb1 hT)
 refine wpIn_mono (Q := NoPanic _) ?_ NoPanic.imp
 gi_region_with (first | (refine ⟨trivial, ?_⟩; gi_at_call 104; refine (below_in _ _ _).mono ?_; rintro e w' ⟨rfl, rfl⟩))
 all_goals
  refine NoPanic.normal ?_
  gi_wp2
  obtain ⟨w2, hw2⟩ : ∃ x, x = ((w1.alloc (.cells #[.slice none 0 0] 55)).alloc (.cells #[.pointer (some ⟨p, 0, none⟩)] 119)).drew := ⟨_, rfl⟩
  rw [← hw2]
  have hsz : w2.heap.size = w1.heap.size + 2 := by rw [hw2]; simp
  have hb2 : Below w1.heap.size w1 w2 := hw2 ▸ (bal (bal (Below.refl _ _) _) _).drew
  have inv : BelI w1 ps l k p [] w2 := by
   refine ⟨⟨.slice none 0 0, ?_, World.ownsRow_nil _ _ _ _⟩, ?_, by omega, hb2⟩
   ·rw [hw2]
    have e1 := Below.heap_alloc (w1.alloc (.cells #[.slice none 0 0] 55)) (.cells #[.pointer (some ⟨p, 0, none⟩)] 119) w1.heap.size (by simp)
    exact e1.trans (World.alloc_heap_new w1 _)
   ·rw [hw2]
    have e1 := World.alloc_heap_new (w1.alloc (.cells #[.slice none 0 0] 55)) (.cells #[.pointer (some ⟨p, 0, none⟩)] 119)
    rw [World.size_alloc] at e1
    exact e1
  clear hw2 hl c0 c1 c2 cz s0 s1
  refine wpIn_range_linkedP (α := Nat) rfl (by decide) (gf := 121) (lb := #[.pointer (some ⟨w1.heap.size + 1, 0, none⟩)]) rfl trivial (enters_of Tryz.func121 (by kernel_rfl) rfl)
   (encs := fun x => #[ptrV ps[x]?]) (V := fun pre x => x = k + 1 + pre.length ∧ pre.length < belowN l k) (S := fun xs => xs = List.range' (k + 1) (belowN l k)) (N := belowN l k) (BelI w1 ps l k p) ?hseq (fun _ => rfl) (hsz ▸ BelI.own) inv
   (fun x => { tmps := #[.pointer (some ⟨b, 0, none⟩), slV o i, undef, .pointer (some ⟨w.heap.size, 0, none⟩), .slice none 0 0, .pointer (some ⟨w1.heap.size, 0, none⟩), ptrV ps[x]?, .pointer (some ⟨b, 0, none⟩), .agg #[.int .i64 o, .int .i64 i], .bool true, .bool false, .pointer (some ⟨b, 0, none⟩), .pointer (some ⟨b, 0, none⟩), .pointer (some ⟨b, 2, none⟩), .map (some m), .agg #[.int .i64 o, .int .i64 i], .pointer (some ⟨p, 0, none⟩), .func (.func 121) #[] #[.pointer (some ⟨w1.heap.size + 1, 0, none⟩)], ptrV ps[x]?, undef, undef, undef, undef, undef, undef, undef, undef], defers := [] }) ?hassign ?hbody ?hdone
  case hseq =>
   intro l' J W hB hAb hJI hY h0
   exact below1_linked _ l' (w1.heap.size + 1) W ps l k p x HT.out.len HT.out.inj hk hx J hY h0
    (fun pre W1 j hj => by
     have hbd := below_drewN (Below.refl 0 W1) j
     have hg : W1.grownBy (W1.drewN j) none := ⟨hbd.os, hbd.tape, hbd.output, by rw [World.heap_drewN]; exact Nat.le_refl _, fun q _ _ => by rw [World.heap_drewN]⟩
     exact hAb pre W1 _ none hj hg (fun r e => by cases e)) (fun pre W1 hj => (hJI pre W1 hj).rows HT.out)
  case hassign =>
   intro l' x' W K hK
   gi_wp2
   exact hK
  case hbody =>
   rintro l' pre x' W ⟨rfl, hlt⟩ hI hlen
   obtain ⟨y, hy, hyd⟩ := belowN_in hx hlt
   obtain ⟨q, hq⟩ := get_len HT.out.len.symm hy
   have hTW := HT.out.call hI.below
   have hrq := hTW.row _ q y hq hy
   obtain ⟨q0, q1, q2, q3, q4, qz⟩ := place_cells hrq
   obtain ⟨v, hv, hrow⟩ := hI.list
   obtain ⟨v0, vz⟩ := cell_box hv
   have hql : q < W.heap.size := hTW.lt (foot_at hq)
   have hll := hI.lt
   have hlw : w1.heap.size < W.heap.size := by omega
   have hpl : pre.length ≤ 1000000 := by
    have := (lgs hy).1
    have := HT.out.le
    omega
   obtain ⟨v', w3, hrun, hown, hgrow, _, hat⟩ := run_append_own_at (P := Tryz.prog) (w := (W.alloc (.cells #[.int .i64 y.o, .int .i64 y.i] 30)).drew) (w1.heap.size + 2) 55 55 30 i0 (.agg #[.int .i64 0, .int .i64 0]) 2 16 Tryz.underlying55 HI0.out hz0 hz1 hz2 rfl (by decide) v pre.length _ (hrow.alloc _) ⟨W.heap.size, 0, none⟩ 1 1 (sltC y) rfl (news_at W _ (sltC y) _ rfl) (by simp [Value.oneCell']) (by unfold maxLen; omega) (by omega) (by simp; omega)
   obtain ⟨gg, cc, rfl⟩ : ∃ gg cc, v' = .slice (some ⟨gg, 0, none⟩) (pre.length + 1) cc := by
    rcases hown.2 with ⟨_, h0⟩ | ⟨gg, cc, cur, e, _⟩
    ·omega
    ·exact ⟨gg, cc, e⟩
   have HST := hid (hI.step (x := k + 1 + pre.length) hy hv hrow hown hgrow)
   have hvb : v.ownBlock ≠ some w1.heap.size := fun e => by have := (hrow.lt _ e).1; omega
   have e3 : w3.heap[w1.heap.size]? = W.heap[w1.heap.size]? := (hgrow.block _ (by simp; omega) (fun e => hvb e.symm)).trans (Below.heap_alloc _ _ _ (by omega))
   obtain ⟨g0, gz⟩ := cell_box (e3.trans hv)
   rw [hq, ptrV_some]
   clear hI hTW hrq q2 q3 q4 hy hyd hv hrow hown hgrow hat e3 hvb
   gi_wp2
   gi_region
   all_goals
    gi_wp2
    obtain ⟨a1, a2⟩ := HST.out
    first | exact ⟨a2, a1⟩ | exact ⟨rfl, a2, a1⟩
  case hdone =>
   rintro D xs W hD rfl hI hK
   obtain ⟨v, hv, hrow⟩ := hI.list
   obtain ⟨v0, vz⟩ := cell_box hv
   rw [List.length_range'] at hrow
   have HROW := hid hrow
   have HI := hid hI
   clear hrow hI hv
   gi_wp2
   refine ⟨by simp, .inl ⟨_, _, rfl, run_takeDeferred hK, ?_⟩⟩
   have hD' : w1.heap.size + 2 ≤ D := by omega
   have hput : ∀ j, j ≠ D → (W.putObj D (.deferred none)).heap[j]? = W.heap[j]? := fun j hj => World.putObj_heap_other hj
   have hB := HB1.out.trans (HI.out.below.mono HB1.out.size)
   have s1 := HB1.out.size
   refine ⟨_, results_tmp rfl _ _ _, _, rfl, ?_, hB.os, hB.tape, hB.output, by have := hB.size; simp [World.putObj]; omega, fun j hj => (hput j (by omega)).trans (hB.block j hj)⟩
   have hl2 : ((l.drop (k + 1)).take (belowN l k)).length = belowN l k := by
    have := belowN_le (lgs hx).1
    rw [List.length_take, List.length_drop]; omega
   rw [hl2]
   have h9 := HROW.out
   refine own_block (own_base h9 (by omega)) (fun g hg => hput g (fun e => ?_))
   rcases h9.2 with ⟨rfl, _⟩ | ⟨g', cap, cur, rfl, _, q2, _⟩
   ·cases hg
   ·cases hg
    have e' : g' = D := e
    rw [e', hK] at q2
    cases q2
end
section
open Go.ChangeShapes Go.WideShapes Go.ChangeAt Go.RowKit Go.Shelf
theorem below_any (w : World) (B b m n : Nat) (ps : List Nat) (l : List Nod) (f : Int → Int → Option Nat) (o i : Int) (ho : InS o) (hi : InS i) (h : TreeAt w B b m n ps l f) (hn : n < 1000000) :
  Calls Tryz.prog 67 #[.pointer (some ⟨b, 0, none⟩), slV o i] w fun e w' => ∃ v, e = .returned v ∧ w'.ownsRow w.heap.size 30 2 v (belowA l o i).length (slsC (belowA l o i)) ∧ Below w.heap.size w w' := by
 unfold belowA
 cases hk : idx l o i with
 | some k =>
  obtain ⟨x, hx, hxs⟩ := idx_some hk
  obtain ⟨p, hp⟩ := get_len h.len.symm hx
  exact callsIn_wide.1 (below_fn_in w B b m n ps l f o i k p x ho hi h hn hp hx hxs)
 | none =>
  have hf := h.find ho hi
  rw [hk] at hf
  change f o i = none at hf
  have hal : Below w.heap.size w (w.alloc (slO o i)) := bal (Below.refl _ _) _
  have HA := hid hal
  have H := hid h
  have HF := hid hf
  clear h hal hf hk
  go_enter Tryz.func67, Tryz.ntmps67
  go_wp2_with (go_at_call 103; refine (has_any _ B b m n ps l f o i ho hi (H.out.call HA.out)).mono ?_; rw [HF.out]; rintro e w1 ⟨rfl, hb1⟩)
  go_ret
  exact ⟨_, rfl, World.ownsRow_nil _ _ _ _, HA.out.trans (hb1.mono HA.out.size)⟩
def parUp (l : List Nod) (d : Int) : Nat → Option Nat
 | 0 => none
 | j + 1 => if ((l[j]?).map Nod.d).getD d < d then some j else parUp l d j
def parentA (l : List Nod) (o i : Int) : Option Nod := (idx l o i).bind fun k => (parUp l (((l[k]?).map Nod.d).getD 0) k).bind fun j => l[j]?
def parV (x : Option Nod) : Value := .tuple #[slV ((x.map Nod.o).getD 0) ((x.map Nod.i).getD 0), .bool x.isSome]
def posB (ps : List Nat) : Value → Nat
 | .pointer (some a) => ps.idxOf a.block + 1
 | _ => 0
structure ActT where
 d : Int
 a : Int
 b : Int
 p : Int
 q : Int
def ActCells (w : World) (b o : Nat) (x : ActT) : Prop :=
 w.cell? ⟨b, o, none⟩ = some (.int .i64 x.d) ∧ w.cell? ⟨b, o + 1, none⟩ = some (.int .i64 x.a) ∧ w.cell? ⟨b, o + 2, none⟩ = some (.int .i64 x.b) ∧ w.cell? ⟨b, o + 3, none⟩ = some (.int .i64 x.p) ∧ w.cell? ⟨b, o + 4, none⟩ = some (.int .i64 x.q)
def ActT.Ok (x : ActT) : Prop := InS x.a ∧ InS x.b ∧ InS x.p ∧ InS x.q
def ActsAt (w : World) (p : Option Addr) (n : Nat) (D : Nat → ActT) : Prop :=
 ∃ b off, (0 < n → p = some ⟨b, off, none⟩ ∧ b < w.heap.size) ∧ ∀ k, k < n → ActCells w b (off + k * 5) (D k) ∧ (D k).Ok
theorem wf_S {n : Int} (h : (Lit.int .i64 n).wf = true) : InS n := by
 have e1 : IntKind.i64.min = -9223372036854775808 := by decide
 have e2 : IntKind.i64.max = 9223372036854775807 := by decide
 simp only [Lit.wf, e1, e2, Bool.and_eq_true, decide_eq_true_eq] at h
 exact h
def stepA (l : List Nod) (x : ActT) : List Nod :=
 if x.d = 0 then (rootA l x.a x.b).1 else if x.d = 1 then (childA l x.a x.b x.p x.q).1 else if x.d = 2 then (removeA l x.a x.b).1 else if x.d = 3 then (moveA l x.a x.b x.p x.q).1 else if x.d = 4 then swapA l x.a x.b x.p x.q else l
def playL (D : Nat → ActT) : Nat → List Nod
 | 0 => []
 | k + 1 => stepA (playL D k) (D k)
def StK (w0 : World) (b m n : Nat) (l : List Nod) (K : Nat → Prop) (W : World) : Prop :=
 ∃ ps f, TreeAt W w0.heap.size b m n ps l f ∧ Below w0.heap.size w0 W ∧ ∀ k, K k → k < W.heap.size ∧ ¬ foot b m ps k
def SameK (K : Nat → Prop) (W W' : World) : Prop := ∀ k, K k → W'.heap[k]? = W.heap[k]?
def KV (v : Value) (k : Nat) : Prop := v.ownBlock = some k
theorem sw_comm (o i p j : Int) (x : Nod) : sw p j o i x = sw o i p j x := by
 obtain ⟨xo, xi, xd⟩ := x
 unfold sw
 simp only
 repeat' split
 all_goals (try simp only [Nod.mk.injEq, and_true])
 all_goals omega
theorem swapA_comm (l : List Nod) (o i p j : Int) : swapA l p j o i = swapA l o i p j := by
 unfold swapA
 have : sw p j o i = sw o i p j := by funext x; exact sw_comm o i p j x
 rw [this]
theorem idx_iff (l : List Nod) (o i : Int) : (idx l o i).isSome = true ↔ ∃ x ∈ l, x.o = o ∧ x.i = i := by
 cases h : idx l o i with
 | none =>
  simp only [Option.isSome_none, Bool.false_eq_true, false_iff]
  rintro ⟨x, hx, e⟩
  obtain ⟨k, hk⟩ := List.getElem?_of_mem hx
  exact idx_none h hk e
 | some k =>
  obtain ⟨x, hx, e⟩ := idx_some h
  simp only [Option.isSome_some, true_iff]
  exact ⟨x, List.mem_of_getElem? hx, e⟩
theorem idx_swap {l : List Nod} {o i p j : Int} : (idx (swapA l o i p j) o i).isSome = (idx l p j).isSome ∧ (idx (swapA l o i p j) p j).isSome = (idx l o i).isSome := by
 have key : ∀ a c, (idx (swapA l o i p j) a c).isSome = true ↔ (idx l (sw o i p j ⟨a, c, 0⟩).o (sw o i p j ⟨a, c, 0⟩).i).isSome = true := by
  intro a c
  rw [idx_iff, idx_iff]
  unfold swapA
  constructor
  ·rintro ⟨y, hy, e⟩
   obtain ⟨x, hx, rfl⟩ := List.mem_map.1 hy
   exact ⟨x, hx, (sw_slot o i p j x a c).1 e⟩
  ·rintro ⟨x, hx, e⟩
   exact ⟨sw o i p j x, List.mem_map.2 ⟨x, hx, rfl⟩, (sw_slot o i p j x a c).2 e⟩
 have e1 := key o i
 have e2 := key p j
 have h1 : sw o i p j ⟨o, i, 0⟩ = ⟨p, j, 0⟩ := by unfold sw; rw [if_pos ⟨rfl, rfl⟩]
 have h2 : sw o i p j ⟨p, j, 0⟩ = ⟨o, i, 0⟩ := by
  unfold sw
  split
  ·rename_i h; simp only at h; rw [h.1, h.2]
  ·rw [if_pos ⟨rfl, rfl⟩]
 rw [h1] at e1
 rw [h2] at e2
 exact ⟨Bool.eq_iff_iff.2 e1, Bool.eq_iff_iff.2 e2⟩
structure Dep (l : List Nod) : Prop where
 zero : ∀ x, l[0]? = some x → x.d = 0
 step : ∀ (k : Nat) (x y : Nod), l[k]? = some x → l[k + 1]? = some y → y.d ≤ x.d + 1
 pos : ∀ (k : Nat) (x : Nod), l[k]? = some x → 0 ≤ x.d
theorem dep_nil : Dep [] := ⟨fun x h => by simp at h, fun k x y h => by simp at h, fun k x h => by simp at h⟩
theorem dep_ins {l : List Nod} {q : Nat} {x : Nod} (h : Dep l) (hq : q ≤ l.length) (h0 : q = 0 → x.d = 0) (h1 : ∀ k y, q = k + 1 → l[k]? = some y → x.d ≤ y.d + 1) (h2 : ∀ y, l[q]? = some y → y.d ≤ x.d + 1) (h3 : 0 ≤ x.d) (h4 : q = 0 → l = []) : Dep (l.insertIdx q x) := by
 refine ⟨fun y hy => ?_, fun k y z hy hz => ?_, fun k y hy => ?_⟩
 ·rcases ins_get hq hy with ⟨e, hr⟩ | ⟨e, rfl⟩ | ⟨j, e, _⟩
  ·exact h.zero y hr
  ·exact h0 e.symm
  ·omega
 ·rcases ins_get hq hy with ⟨e, hr⟩ | ⟨rfl, rfl⟩ | ⟨j, rfl, e, hr⟩
  ·by_cases e2 : k + 1 = q
   ·subst e2
    rw [ins_at hq] at hz
    cases hz
    exact h1 k y rfl hr
   ·rw [ins_lo (by omega)] at hz
    exact h.step k y z hr hz
  ·rw [ins_hi (Nat.le_refl _)] at hz
   exact h2 z hz
  ·rw [ins_hi (by omega)] at hz
   exact h.step j y z hr hz
 ·rcases ins_get hq hy with ⟨e, hr⟩ | ⟨e, rfl⟩ | ⟨j, e, _, hr⟩
  ·exact h.pos _ _ hr
  ·exact h3
  ·exact h.pos _ _ hr
theorem dep_root {l : List Nod} (h : Dep l) (o i : Int) : Dep (rootA l o i).1 := by
 unfold rootA
 split
 ·exact h
 ·refine dep_ins h (Nat.le_refl _) (fun _ => rfl) (fun k y _ hy => ?_) (fun y hy => ?_) (Int.le_refl _) (fun e => List.length_eq_zero_iff.1 e)
  ·have := h.pos k y hy
   show (0 : Int) ≤ _
   omega
  ·simp at hy
theorem dep_child {l : List Nod} (h : Dep l) (o i p j : Int) : Dep (childA l o i p j).1 := by
 unfold childA
 cases hk : idx l o i with
 | none => exact h
 | some k =>
  simp only
  split
  ·exact h
  ·obtain ⟨x, hx, _⟩ := idx_some hk
   have hxd : (l[k]?.map Nod.d).getD 0 = x.d := by rw [hx]; rfl
   rw [hxd]
   have hkl : k < l.length := (lgs hx).1
   refine dep_ins h (by omega) (fun e => by omega) (fun k' y e hy => ?_) (fun y hy => ?_) ?_ (fun e => by omega)
   ·obtain rfl : k = k' := by omega
    rw [hx] at hy
    cases hy
    exact Int.le_refl _
   ·have := h.step k x y hx hy
    show y.d ≤ x.d + 1 + 1
    omega
   ·have := h.pos k x hx
    show 0 ≤ x.d + 1
    omega
theorem low_d {l : List Nod} {k j : Nat} {x y : Nod} (hx : l[k]? = some x) (hy : l[j]? = some y) (hj : k < j) : ∃ z, (low l k (belowN l k))[j]? = some z ∧ ((j < k + 1 + belowN l k ∧ x.d < y.d ∧ z.d = y.d - 1) ∨ (k + 1 + belowN l k ≤ j ∧ z.d = y.d)) := by
 by_cases e : j < k + 1 + belowN l k
 ·refine ⟨{ y with d := y.d - 1 }, ?_, .inl ⟨e, ?_, rfl⟩⟩
  ·rw [low_get, hy]
   show some (if _ then _ else _) = _
   rw [if_pos ⟨hj, e⟩]
  ·obtain ⟨c, rfl⟩ : ∃ c, j = k + 1 + c := ⟨j - (k + 1), by omega⟩
   obtain ⟨z, hz, hd⟩ := belowN_in hx (c := c) (by omega)
   rw [hy] at hz
   cases hz
   exact hd
 ·exact ⟨y, by rw [low_out (by omega)]; exact hy, .inr ⟨by omega, rfl⟩⟩
theorem dep_low {l : List Nod} (h : Dep l) {k : Nat} {x : Nod} (hx : l[k]? = some x) : Dep ((low l k (belowN l k)).eraseIdx k) := by
 have hxp := h.pos k x hx
 -- what stands behind the k-th
 have hb : ∀ (j : Nat) (z : Nod), k < j → (low l k (belowN l k))[j]? = some z → ∃ y, l[j]? = some y ∧ ((j < k + 1 + belowN l k ∧ x.d < y.d ∧ z.d = y.d - 1) ∨ (k + 1 + belowN l k ≤ j ∧ z.d = y.d)) := by
  intro j z hj hz
  obtain ⟨y, hy, _⟩ := low_slot hz
  obtain ⟨z', hz', hc⟩ := low_d hx hy hj
  rw [hz] at hz'
  cases hz'
  exact ⟨y, hy, hc⟩
 have hnext : ∀ y, l[k + 1 + belowN l k]? = some y → y.d ≤ x.d := fun y hy => belowN_out hx hy
 refine ⟨fun z hz => ?_, fun j u z hu hz => ?_, fun j z hz => ?_⟩
 ·by_cases e : k = 0
  ·subst e
   rw [del_hi (Nat.le_refl _)] at hz
   obtain ⟨y, hy, hc⟩ := hb 1 z (by omega) hz
   have h0 := h.zero x hx
   have h1 := h.step 0 x y hx hy
   have h2 := h.pos 1 y hy
   rcases hc with ⟨_, _, hd⟩ | ⟨hl, hd⟩
   ·omega
   ·have hN : belowN l 0 = 0 := by omega
    have := hnext y (by rw [hN]; exact hy)
    omega
  ·rw [del_lo (by omega), low_out (by omega)] at hz
   exact h.zero z hz
 ·rcases Nat.lt_trichotomy (j + 1) k with e | e | e
  ·rw [del_lo (by omega), low_out (by omega)] at hu hz
   exact h.step j u z hu hz
  ·rw [del_lo (by omega), low_out (by omega)] at hu
   rw [e, del_hi (Nat.le_refl _)] at hz
   obtain ⟨y, hy, hc⟩ := hb _ z (by omega) hz
   have h1 := h.step j u x hu (by rw [e]; exact hx)
   have h2 := h.step k x y hx hy
   rcases hc with ⟨_, _, hd⟩ | ⟨hl, hd⟩
   ·omega
   ·have hN : belowN l k = 0 := by omega
    have := hnext y (by rw [hN]; exact hy)
    omega
  ·rw [del_hi (by omega)] at hu hz
   obtain ⟨y1, hy1, hc1⟩ := hb _ u (by omega) hu
   obtain ⟨y2, hy2, hc2⟩ := hb _ z (by omega) hz
   have h1 := h.step _ _ _ hy1 hy2
   rcases hc1 with ⟨a1, a2, a3⟩ | ⟨a1, a3⟩
   ·rcases hc2 with ⟨b1, b2, b3⟩ | ⟨b1, b3⟩
    ·omega
    ·have e3 : j + 1 + 1 = k + 1 + belowN l k := by omega
     have := hnext y2 (by rw [← e3]; exact hy2)
     omega
   ·rcases hc2 with ⟨b1, b2, b3⟩ | ⟨b1, b3⟩
    ·omega
    ·omega
 ·rw [del_back] at hz
  by_cases e : back k j ≤ k
  ·have hne := back_ne k j
   rw [low_out (by omega)] at hz
   exact h.pos _ _ hz
  ·obtain ⟨y, hy, hc⟩ := hb _ z (by omega) hz
   have := h.pos _ _ hy
   rcases hc with ⟨_, a, b⟩ | ⟨_, b⟩ <;> omega
theorem dep_remove {l : List Nod} (h : Dep l) (o i : Int) : Dep (removeA l o i).1 := by
 unfold removeA
 cases hk : idx l o i with
 | none => exact h
 | some k =>
  obtain ⟨x, hx, _⟩ := idx_some hk
  exact dep_low h hx
theorem dep_swap {l : List Nod} (h : Dep l) (o i p j : Int) : Dep (swapA l o i p j) := by
 have hg : ∀ {k : Nat} {y : Nod}, (swapA l o i p j)[k]? = some y → ∃ x, l[k]? = some x ∧ y.d = x.d := by
  intro k y hy
  unfold swapA at hy
  rw [List.getElem?_map] at hy
  obtain ⟨x, hx, e⟩ := Option.map_eq_some_iff.1 hy
  refine ⟨x, hx, ?_⟩
  rw [← e]
  unfold sw
  split
  ·rfl
  ·split <;> rfl
 refine ⟨fun y hy => ?_, fun k y z hy hz => ?_, fun k y hy => ?_⟩
 ·obtain ⟨x, hx, e⟩ := hg hy
  rw [e]; exact h.zero x hx
 ·obtain ⟨x, hx, e⟩ := hg hy
  obtain ⟨x', hx', e'⟩ := hg hz
  rw [e, e']; exact h.step k x x' hx hx'
 ·obtain ⟨x, hx, e⟩ := hg hy
  rw [e]; exact h.pos k x hx
def Once (l : List Nod) : Prop := ∀ (k j : Nat) (x y : Nod), l[k]? = some x → l[j]? = some y → x.o = y.o → x.i = y.i → k = j
theorem eqS (a b c d : Int) (w : World) : (binOp .eql 30 (slV a b) (slV c d)).run Tryz.prog w = .ok (.bool (decide (a = c ∧ b = d))) w := by
 go_simp
 repeat (split <;> simp_all)
theorem neS (a b c d : Int) (w : World) : (binOp .neq 30 (slV a b) (slV c d)).run Tryz.prog w = .ok (.bool (!decide (a = c ∧ b = d))) w := by
 go_simp
 repeat (split <;> simp_all)
end
end Go.Proofs.YtchjfeafkmpmbaaGreatDoor
