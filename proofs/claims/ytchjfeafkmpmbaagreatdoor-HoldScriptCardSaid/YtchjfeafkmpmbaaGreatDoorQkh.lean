import Derived.Test.YtchjfeafkmpmbaaGreatDoorQkg
import Derived.Lib.SmallJoins
import Derived.Maps.AppendAt
import Derived.Stop.RegionWithIn
import Derived.Deep.RegionHeld3
import Derived.Deep.QuietTactic
import Derived.BigQuiet
import Derived.OwnWalk
namespace Go.Proofs.YtchjfeafkmpmbaaGreatDoor
set_option linter.unusedVariables false
set_option linter.unusedSimpArgs false
set_option maxRecDepth 100000
set_option maxHeartbeats 8000000
open Lib (hid)
section
open Go.ChangeShapes Go.WideShapes Go.ChangeAt Go.RowKit Go.Shelf
attribute [local go_sem] Oper.semAt_some
def low (l : List Nod) (k c : Nat) : List Nod := l.mapIdx fun j x => if k < j ∧ j < k + 1 + c then { x with d := x.d - 1 } else x
theorem low_get {l : List Nod} {k c j : Nat} : (low l k c)[j]? = (l[j]?).map fun x => if k < j ∧ j < k + 1 + c then { x with d := x.d - 1 } else x := by
 unfold low
 rw [List.getElem?_mapIdx]
theorem low_len (l : List Nod) (k c : Nat) : (low l k c).length = l.length := by unfold low; simp
theorem low_zero (l : List Nod) (k : Nat) : low l k 0 = l := by
 apply List.ext_getElem?
 intro j
 rw [low_get]
 cases l[j]? with
 | none => rfl
 | some x =>
  show some (if k < j ∧ j < k + 1 + 0 then _ else _) = _
  rw [if_neg (by omega)]
theorem low_out {l : List Nod} {k c j : Nat} (h : ¬ (k < j ∧ j < k + 1 + c)) : (low l k c)[j]? = l[j]? := by
 rw [low_get]
 cases l[j]? with
 | none => rfl
 | some x =>
  show some (if k < j ∧ j < k + 1 + c then _ else _) = _
  rw [if_neg h]
theorem low_next {l : List Nod} {k c j : Nat} (h : j ≠ k + 1 + c) : (low l k (c + 1))[j]? = (low l k c)[j]? := by
 rw [low_get, low_get]
 congr 1
 funext x
 by_cases e : k < j ∧ j < k + 1 + c
 ·rw [if_pos e, if_pos (by omega)]
 ·rw [if_neg e, if_neg (by omega)]
theorem low_this {l : List Nod} {k c : Nat} {x : Nod} (h : l[k + 1 + c]? = some x) : (low l k (c + 1))[k + 1 + c]? = some { x with d := x.d - 1 } := by
 rw [low_get, h]
 show some (if k < k + 1 + c ∧ k + 1 + c < k + 1 + (c + 1) then _ else _) = _
 rw [if_pos (by omega)]
theorem low_slot {l : List Nod} {k c j : Nat} {y : Nod} (h : (low l k c)[j]? = some y) : ∃ x, l[j]? = some x ∧ y.o = x.o ∧ y.i = x.i := by
 rw [low_get] at h
 obtain ⟨x, hx, e⟩ := Option.map_eq_some_iff.1 h
 refine ⟨x, hx, ?_⟩
 rw [← e]
 split <;> exact ⟨rfl, rfl⟩
theorem low_tree {W : World} {B b m n : Nat} {ps : List Nat} {l : List Nod} {f : Int → Int → Option Nat} {k c q : Nat} {x : Nod} (h : TreeAt W B b m n ps (low l k c) f) (hq : ps[k + 1 + c]? = some q) (hx : l[k + 1 + c]? = some x) (hd : 1 ≤ x.d) :
  TreeAt (W.setCell ⟨q, 2, none⟩ (.int .i64 (x.d - 1))) B b m n ps (low l k (c + 1)) f := by
 have hlx : (low l k c)[k + 1 + c]? = some x := by rw [low_out (by omega)]; exact hx
 have hrq := h.row _ q x hq hlx
 have hbq := head_place h.head hrq
 have hmq := map_place hrq h.map
 have hl1 := low_len l k c
 have hl2 := low_len l k (c + 1)
 have hle := h.le
 have hlen := h.len
 have hat : ∀ {j : Nat} {y : Nod}, (low l k (c + 1))[j]? = some y → (j ≠ k + 1 + c ∧ (low l k c)[j]? = some y) ∨ (j = k + 1 + c ∧ y = { x with d := x.d - 1 }) := by
  intro j y hy
  by_cases e : j = k + 1 + c
  ·subst e
   rw [low_this hx] at hy
   exact .inr ⟨rfl, (Option.some.inj hy).symm⟩
  ·rw [low_next e] at hy
   exact .inl ⟨e, hy⟩
 have hs : ∀ {j : Nat} {y : Nod}, (low l k (c + 1))[j]? = some y → ∃ z, (low l k c)[j]? = some z ∧ y.o = z.o ∧ y.i = z.i := by
  intro j y hy
  rcases hat hy with ⟨_, h2⟩ | ⟨rfl, rfl⟩
  ·exact ⟨y, h2, rfl, rfl⟩
  ·exact ⟨x, hlx, rfl, rfl⟩
 refine ⟨by omega, by omega, (Go.heap_setCell_other _ _ _ _ hbq).trans h.head, ?_, h.inj, h.gb, h.gm, h.gp, ?_, ?_, h.map.of_block (Go.heap_setCell_other _ _ _ _ hmq), ?_⟩
 ·intro j r y hr hy
  rcases hat hy with ⟨e, h2⟩ | ⟨rfl, rfl⟩
  ·have hne : r ≠ q := fun e2 => e (h.inj _ _ _ hr (e2 ▸ hq))
   exact (Go.heap_setCell_other _ _ _ _ hne).trans (h.row j r y hr h2)
  ·rw [hq] at hr
   cases hr
   exact Go.heap_setCell_same _ _ _ _ _ _ hrq
 ·intro i j y z hi hj h1 h2
  obtain ⟨y', a1, a2, a3⟩ := hs hi
  obtain ⟨z', b1, b2, b3⟩ := hs hj
  exact h.slots _ _ _ _ a1 b1 (by rw [← a2, ← b2, h1]) (by rw [← a3, ← b3, h2])
 ·intro j y hy
  rcases hat hy with ⟨e, h2⟩ | ⟨rfl, rfl⟩
  ·exact h.ins _ _ h2
  ·obtain ⟨a, b, c', d⟩ := h.ins _ _ hlx
   exact ⟨a, b, by show 0 ≤ x.d - 1; omega, by show x.d - 1 ≤ _; omega⟩
 ·intro o i r ho hi
  rw [h.finds o i r ho hi]
  constructor
  ·rintro ⟨j, y, h1, h2, h3, h4⟩
   by_cases e : j = k + 1 + c
   ·subst e
    rw [hlx] at h2
    cases h2
    exact ⟨_, _, h1, low_this hx, h3, h4⟩
   ·exact ⟨j, y, h1, (low_next e).trans h2, h3, h4⟩
  ·rintro ⟨j, y, h1, h2, h3, h4⟩
   obtain ⟨z, a1, a2, a3⟩ := hs h2
   exact ⟨j, z, h1, a1, by rw [← a2]; exact h3, by rw [← a3]; exact h4⟩
def removeA (l : List Nod) (o i : Int) : List Nod × Int :=
 match idx l o i with
 | none => (l, 10)
 | some k => ((low l k (belowN l k)).eraseIdx k, 0)
structure RemI (w : World) (B b m n : Nat) (ps : List Nat) (l : List Nod) (f : Int → Int → Option Nat) (k p : Nat) (pre : List Nat) (W : World) : Prop where
 tree : TreeAt W B b m n ps (low l k pre.length) f
 box : W.cell? ⟨w.heap.size + 1, 0, none⟩ = some (.pointer (some ⟨p, 0, none⟩))
 lt : w.heap.size + 2 ≤ W.heap.size
 only : TOnly w W b m ps ps
theorem RemI.own {w : World} {B b m n : Nat} {ps : List Nat} {l : List Nod} {f : Int → Int → Option Nat} {k p : Nat} (H : TreeAt w B b m n ps l f) : OwnFrom (w.heap.size + 2) (RemI w B b m n ps l f k p) := by
 intro s A C row h hg hr
 have e : ∀ j, j < w.heap.size + 2 → C.heap[j]? = A.heap[j]? := fun j hj => hg.block j (Nat.lt_of_lt_of_le hj h.lt) (fun e => by have := (hr j e.symm).1; omega)
 refine ⟨h.tree.of_blocks (fun j hj => e j (by have := H.lt hj; omega)), ?_, Nat.le_trans h.lt hg.size, hg.os.trans h.only.os, hg.tape.trans h.only.tape, hg.output.trans h.only.output, Nat.le_trans h.only.size hg.size, fun j hj hf => (e j (by omega)).trans (h.only.block j hj hf), h.only.foot⟩
 rw [show C.cell? ⟨w.heap.size + 1, 0, none⟩ = A.cell? ⟨w.heap.size + 1, 0, none⟩ from by unfold World.cell?; simp only [e (w.heap.size + 1) (by omega)]]
 exact h.box
theorem RemI.rows {w W : World} {B b m n : Nat} {ps : List Nat} {l : List Nod} {f : Int → Int → Option Nat} {k p : Nat} {pre : List Nat} (h : RemI w B b m n ps l f k p pre W) : Rows W ps l k pre.length (w.heap.size + 1) p := by
 refine ⟨h.box, fun j q hq => ?_, fun j q y hq hy hj => ?_⟩
 ·obtain ⟨z, hz⟩ := get_len h.tree.len hq
  exact (place_cells (h.tree.row j q z hq hz)).2.2.2.2.1
 ·have hz : (low l k pre.length)[j]? = some y := by rw [low_out (by omega)]; exact hy
  exact (place_cells (h.tree.row j q y hq hz)).2.2.1
theorem RemI.step {w W : World} {B b m n : Nat} {ps : List Nat} {l : List Nod} {f : Int → Int → Option Nat} {k p : Nat} {pre pre' : List Nat} {q j : Nat} {v : Value} (h : RemI w B b m n ps l f k p pre W) (ht : TreeAt (W.setCell ⟨q, 2, none⟩ v) B b m n ps (low l k (pre.length + 1)) f) (hq : ps[j]? = some q) (hp : pre'.length = pre.length + 1) (hql : q < w.heap.size) : RemI w B b m n ps l f k p pre' (W.setCell ⟨q, 2, none⟩ v) := by
 refine ⟨by rw [hp]; exact ht, ?_, by have := h.lt; simp; omega, h.only.os, h.only.tape, h.only.output, by have := h.only.size; simp; omega, fun i hi hf => ?_, h.only.foot⟩
 ·rw [World.cell?_setCell_other _ _ _ _ (by intro e2; injection e2 with e2 _ _; omega)]
  exact h.box
 ·have hne : i ≠ q := fun e => hf (e ▸ foot_at hq)
  exact (Go.heap_setCell_other _ _ _ _ hne).trans (h.only.block i hi hf)
theorem remove_in (w : World) (B b m n : Nat) (ps : List Nat) (l : List Nod) (f : Int → Int → Option Nat) (o i : Int) (k p : Nat) (x : Nod) (ho : InS o) (hi : InS i) (h : TreeAt w B b m n ps l f) (hn : n < 1000000) (hk : ps[k]? = some p) (hx : l[k]? = some x) (hxs : x.o = o ∧ x.i = i) :
  CallsIn Fence.wide 3 Tryz.prog 72 #[.pointer (some ⟨b, 0, none⟩), slV o i] w fun e w' => e = .returned (.int .i64 0) ∧ Left w w' B b m (n + 1) ps ((low l k (belowN l k)).eraseIdx k) := by
 have hf : f o i = some p := (h.finds o i p ho hi).2 ⟨k, x, hk, hx, hxs⟩
 have hal : Below w.heap.size w (w.alloc (slO o i)) := bal (Below.refl _ _) _
 have hl := h.look_ok (W := (w.alloc (slO o i)).drew) (hal.drew.block m (h.lt (.inr (.inl rfl)))) ho hi
 rw [hf] at hl
 simp only [ptrV, Option.isSome] at hl
 obtain ⟨c0, c1, c2, cz⟩ := head_cells h.head
 have hbl : b < w.heap.size := h.lt (.inl rfl)
 have H := hid h
 have HK := hid hk
 have HX := hid hx
 clear h hk hx hal
 refine callsIn_of_wp_marks Tryz.func72 rfl trivial ?_ rfl
 simp only [Tryz.ntmps72, List.size_toArray, List.length_cons, List.length_nil, Nat.reduceAdd, Nat.reduceSub, Array.replicate_succ, Array.replicate_zero, List.push_toArray, List.append_toArray, List.nil_append, List.cons_append]
 gi_wp2
 gi_region
 gi_wp2_with (refine ⟨trivial, ?_⟩; gi_at_call 104; refine (below_in _ _ _).mono ?_; rintro e w' ⟨rfl, rfl⟩)
 obtain ⟨w1, hw1⟩ : ∃ x, x = ((w.alloc (slO o i)).alloc (.cells #[.pointer (some ⟨p, 0, none⟩)] 119)).drew := ⟨_, rfl⟩
 rw [← hw1]
 have hsz : w1.heap.size = w.heap.size + 2 := by rw [hw1]; simp
 have hb1 : Below w.heap.size w w1 := hw1 ▸ (bal (bal (Below.refl _ _) _) _).drew
 have inv : RemI w B b m n ps l f k p [] w1 := by
  refine ⟨?_, ?_, by omega, .of_below hb1⟩
  ·show TreeAt w1 B b m n ps (low l k 0) f
   rw [low_zero]
   exact H.out.call hb1
  ·rw [hw1]; go_simp
 clear hw1 hl c0 c1 c2 cz hf
 refine wpIn_range_linkedP (α := Nat) rfl (by decide) (gf := 121) (lb := #[.pointer (some ⟨w.heap.size + 1, 0, none⟩)]) rfl trivial (enters_of Tryz.func121 (by kernel_rfl) rfl)
  (encs := fun x => #[ptrV ps[x]?]) (V := fun pre x => x = k + 1 + pre.length ∧ pre.length < belowN l k) (S := fun xs => xs = List.range' (k + 1) (belowN l k)) (N := belowN l k) (RemI w B b m n ps l f k p) ?hseq (fun _ => rfl) (hsz ▸ RemI.own H.out) inv
  (fun x => { tmps := #[.pointer (some ⟨b, 0, none⟩), slV o i, undef, .pointer (some ⟨w.heap.size, 0, none⟩), .int .i64 0, .pointer (some ⟨p, 0, none⟩), .bool true, ptrV ps[x]?, .pointer (some ⟨b, 0, none⟩), .bool false, .tuple #[.pointer (some ⟨p, 0, none⟩), .bool true], .pointer (some ⟨b, 0, none⟩), .pointer (some ⟨b, 0, none⟩), .pointer (some ⟨b, 2, none⟩), .map (some m), .agg #[.int .i64 o, .int .i64 i], .tuple #[.pointer (some ⟨p, 0, none⟩), .bool true], .pointer (some ⟨p, 0, none⟩), .bool true, .bool true, .bool false, .pointer (some ⟨p, 0, none⟩), .func (.func 121) #[] #[.pointer (some ⟨w.heap.size + 1, 0, none⟩)], ptrV ps[x]?, undef, undef, undef, undef, undef, undef, undef, undef, undef, undef], defers := [] }) ?hassign ?hbody ?hdone
 case hseq =>
  intro l' J W hB hAb hJI hY h0
  exact below1_linked _ l' (w.heap.size + 1) W ps l k p x H.out.len H.out.inj HK.out HX.out J hY h0
   (fun pre W1 j hj => by
    have hbd := below_drewN (Below.refl 0 W1) j
    have hg : W1.grownBy (W1.drewN j) none := ⟨hbd.os, hbd.tape, hbd.output, by rw [World.heap_drewN]; exact Nat.le_refl _, fun q _ _ => by rw [World.heap_drewN]⟩
    exact hAb pre W1 _ none hj hg (fun r e => by cases e)) (fun pre W1 hj => (hJI pre W1 hj).rows)
 case hassign =>
  intro l' x' W K hK
  gi_wp2
  exact hK
 case hbody =>
  rintro l' pre x' W ⟨rfl, hlt⟩ hI hlen
  obtain ⟨y, hy, hyd⟩ := belowN_in HX.out hlt
  obtain ⟨q, hq⟩ := get_len H.out.len.symm hy
  have hly : (low l k pre.length)[k + 1 + pre.length]? = some y := by rw [low_out (by omega)]; exact hy
  have hrq := hI.tree.row _ q y hq hly
  obtain ⟨q0, q1, q2, q3, q4, qz⟩ := place_cells hrq
  have hxd := (H.out.ins k x HX.out).2.2
  have hyb := (H.out.ins _ y hy).2.2
  have hd1 : 1 ≤ y.d := by omega
  have hd2 : y.d ≤ 1000000 := by omega
  have HR := hid (low_tree hI.tree hq hy hd1)
  generalize hyy : y.d = d at *
  have HI := hid hI
  rw [hq, ptrV_some]
  clear hI hrq q0 q1 q3 q4 hly hy hyd hxd hyb
  gi_wp2
  refine ⟨KeepsOthers.setCell _ _ _, HI.out.step HR.out hq (by simp) (H.out.lt (foot_at hq))⟩
 case hdone =>
  rintro D xs W hD rfl hI hK
  have hxl : (low l k (belowN l k))[k]? = some x := by rw [low_out (by omega)]; exact HX.out
  have hT := hI.tree
  rw [List.length_range'] at hT
  have HT := hid hT
  have HXL := hid hxl
  have HI := hid hI
  clear hT hxl hI
  gi_wp2_with (refine ⟨trivial, ?_⟩; gi_at_call 106; refine (callsIn_wide.2 (unlink_any _ B b m n ps _ f p k x HT.out HK.out HXL.out)).mono ?_; rintro e w2 ⟨⟨v, rfl⟩, hT2, hO2⟩)
  have hD' : w.heap.size + 2 ≤ D := by omega
  have hnf : ¬ foot b m ps D := fun e => by have := H.out.lt e; omega
  have hDW : D < W.heap.size := (ags hK).1
  have hK2 : w2.heap[D]? = some (.deferred (some [])) := (hO2.block D hDW hnf).trans hK
  refine ⟨by simp, .inl ⟨_, _, rfl, run_takeDeferred hK2, ?_⟩⟩
  have hO := HI.out.only.trans hO2
  have hput : ∀ j, j ≠ D → (w2.putObj D (.deferred none)).heap[j]? = w2.heap[j]? := fun j hj => World.putObj_heap_other hj
  refine ⟨_, results_tmp rfl _ _ _, rfl, _, _, (hT2.of_blocks (fun j hj => hput j (fun e => hnf (hO2.foot j (by omega) (e ▸ hj) |> fun q => e ▸ q)))).mono (Nat.le_succ _), ?_⟩
  exact ⟨hO.os, hO.tape, hO.output, by have := hO.size; simp [World.putObj]; omega, fun j hj hf => (hput j (by omega)).trans (hO.block j hj hf), hO.foot⟩
end
section
open Go.ChangeShapes Go.WideShapes Go.ChangeAt Go.RowKit Go.Shelf
theorem remove_any (w : World) (B b m n : Nat) (ps : List Nat) (l : List Nod) (f : Int → Int → Option Nat) (o i : Int) (ho : InS o) (hi : InS i) (h : TreeAt w B b m n ps l f) (hn : n < 1000000) :
  Calls Tryz.prog 72 #[.pointer (some ⟨b, 0, none⟩), slV o i] w fun e w' => e = .returned (.int .i64 (removeA l o i).2) ∧ Left w w' B b m (n + 1) ps (removeA l o i).1 := by
 unfold removeA
 cases hk : idx l o i with
 | some k =>
  obtain ⟨x, hx, hxs⟩ := idx_some hk
  obtain ⟨p, hp⟩ := get_len h.len.symm hx
  exact callsIn_wide.1 (remove_in w B b m n ps l f o i k p x ho hi h hn hp hx hxs)
 | none =>
  have hf := h.find ho hi
  rw [hk] at hf
  change f o i = none at hf
  have hal : Below w.heap.size w (w.alloc (slO o i)) := bal (Below.refl _ _) _
  have HA := hid hal
  have hl := h.look_ok (W := (w.alloc (slO o i)).drew) (hal.drew.block m (h.lt (.inr (.inl rfl)))) ho hi
  rw [hf] at hl
  simp only [ptrV, Option.isSome] at hl
  obtain ⟨c0, c1, c2, cz⟩ := head_cells h.head
  have hbl : b < w.heap.size := h.lt (.inl rfl)
  have H := hid h
  clear h hal hf hk
  go_enter Tryz.func72, Tryz.ntmps72
  go_upto_region 3 with fail
  go_region
  all_goals
   go_wp2
   go_ret
   exact ⟨rfl, Left.same H.out HA.out.drew (Nat.le_succ _)⟩
abbrev ndV (x : Nod) : Value := .agg #[.int .i64 x.o, .int .i64 x.i, .int .i64 x.d]
theorem neN (x y : Nod) (w : World) : (binOp .neq 44 (ndV x) (ndV y)).run Tryz.prog w = .ok (.bool (!decide (x = y))) w := by
 obtain ⟨s, p, f⟩ := x
 obtain ⟨s', p', f'⟩ := y
 go_simp
 repeat (split <;> simp_all)
def NodesAt (W : World) (v : Value) (l : List Nod) : Prop :=
 (v = .slice none 0 0 ∧ l = []) ∨ ∃ g c, v = .slice (some ⟨g, 0, none⟩) l.length c ∧ g < W.heap.size ∧ ∀ (k : Nat) (x : Nod), l[k]? = some x → W.cell? ⟨g, k * 3, none⟩ = some (.int .i64 x.o) ∧ W.cell? ⟨g, k * 3 + 1, none⟩ = some (.int .i64 x.i) ∧ W.cell? ⟨g, k * 3 + 2, none⟩ = some (.int .i64 x.d)
theorem NodesAt.call {W W' : World} {v : Value} {l : List Nod} (h : NodesAt W v l) (hb : Below W.heap.size W W') : NodesAt W' v l := by
 rcases h with h | ⟨g, c, rfl, hg, hc⟩
 ·exact .inl h
 ·refine .inr ⟨g, c, rfl, Nat.lt_of_lt_of_le hg hb.size, fun k x hx => ?_⟩
  obtain ⟨a1, a2, a3⟩ := hc k x hx
  exact ⟨(hb.cell (p := ⟨g, _, none⟩) hg).trans a1, (hb.cell (p := ⟨g, _, none⟩) hg).trans a2, (hb.cell (p := ⟨g, _, none⟩) hg).trans a3⟩
theorem nodsC_get : ∀ (l : List Nod) (k : Nat) (x : Nod), l[k]? = some x → (nodsC l)[k * 3]? = some (.int .i64 x.o) ∧ (nodsC l)[k * 3 + 1]? = some (.int .i64 x.i) ∧ (nodsC l)[k * 3 + 2]? = some (.int .i64 x.d)
 | [], k, x, h => by simp at h
 | y :: l, 0, x, h => by simp at h; subst h; exact ⟨rfl, rfl, rfl⟩
 | y :: l, k + 1, x, h => by
  obtain ⟨a1, a2, a3⟩ := nodsC_get l k x (by simpa using h)
  have e : nodsC (y :: l) = .int .i64 y.o :: .int .i64 y.i :: .int .i64 y.d :: nodsC l := rfl
  rw [e, show (k + 1) * 3 = k * 3 + 1 + 1 + 1 by omega, show k * 3 + 1 + 1 + 1 + 1 = k * 3 + 1 + 1 + 1 + 1 from rfl]
  exact ⟨a1, a2, a3⟩
theorem nodes_row {W : World} {B : Nat} {e : TypeId} {v : Value} {l : List Nod} (h : W.ownsRow B e 3 v l.length (nodsC l)) : NodesAt W v l := by
 have hlt := h.lt
 have hcs := fun g hg => h.cells (g := g) hg
 obtain ⟨hl, ⟨rfl, h⟩ | ⟨g, cap, cur, rfl, hg, hblk, h1, h2, h3, h4⟩⟩ := h
 ·exact .inl ⟨rfl, List.length_eq_zero_iff.1 h⟩
 ·refine .inr ⟨g, cap, rfl, (hlt g rfl).2, fun k x hx => ?_⟩
  have e : ∀ j, ((⟨g, 0, none⟩ : Addr).add j) = ⟨g, j, none⟩ := fun j => by unfold Addr.add; split <;> simp_all
  obtain ⟨a1, a2, a3⟩ := nodsC_get l k x hx
  have b1 := hcs g rfl _ _ a1
  have b2 := hcs g rfl _ _ a2
  have b3 := hcs g rfl _ _ a3
  rw [e] at b1 b2 b3
  exact ⟨b1, b2, b3⟩
theorem NodesAt.form {W : World} {v : Value} {l : List Nod} (h : NodesAt W v l) : ∃ a c, v = .slice a l.length c := by
 rcases h with ⟨rfl, rfl⟩ | ⟨g, c, rfl, _⟩
 ·exact ⟨none, 0, rfl⟩
 ·exact ⟨_, c, rfl⟩
theorem same_nodes (w : World) (u v : Value) (l r : List Nod) (hu : NodesAt w u l) (hv : NodesAt w v r) (hn : l.length < 1000000) (hr : r.length < 1000000) :
  Calls Tryz.prog 19 #[u, v] w fun e w' => e = .returned (.bool (decide (l = r))) ∧ ∃ j, w' = w.drewN j := by
 by_cases hl : l.length = r.length
 ·rcases hu with ⟨rfl, rfl⟩ | ⟨g, c, rfl, hg, hcg⟩
  ·have hr0 : r = [] := List.length_eq_zero_iff.1 hl.symm
   subst hr0
   obtain ⟨a, c, rfl⟩ := hv.form
   go_enter Tryz.func19, Tryz.ntmps19
   go_wp2
   refine wp_loop_rounds 1 ?_
   rw [rounds_succ]
   go_wp2
   go_ret
   exact ⟨rfl, 0, rfl⟩
  ·rcases hv with ⟨rfl, rfl⟩ | ⟨q, d, rfl, hq, hcq⟩
   ·have hr0 : l = [] := List.length_eq_zero_iff.1 hl
    subst hr0
    go_enter Tryz.func19, Tryz.ntmps19
    go_wp2
    refine wp_loop_rounds 1 ?_
    rw [rounds_succ]
    go_wp2
    go_ret
    exact ⟨rfl, 0, rfl⟩
   ·have HG := hid hcg
    have HQ := hid hcq
    clear hcg hcq
    rw [← hl]
    generalize hN : l.length = N at *
    go_enter Tryz.func19, Tryz.ntmps19
    go_wp2
    go_loopw [5] (fun i wr => ∃ k : Nat, k ≤ N ∧ i = .int .i64 k ∧ (∃ j, wr = w.drewN j) ∧ Hid (l.take k = r.take k)) (fun i _ => N - (intOf i).toNat)
    case atStart => exact ⟨0, by omega, rfl, ⟨0, rfl⟩, hid (by simp)⟩
    case round =>
     obtain ⟨k, hk, rfl, ⟨j, rfl⟩, HE⟩ := hrel
     by_cases hlt : k < N
     ·obtain ⟨x, hx⟩ : ∃ x, l[k]? = some x := ⟨l[k]'(by omega), List.getElem?_eq_getElem _⟩
      obtain ⟨y, hy⟩ : ∃ y, r[k]? = some y := ⟨r[k]'(by omega), List.getElem?_eq_getElem _⟩
      obtain ⟨x0, x1, x2⟩ := HG.out k x hx
      obtain ⟨y0, y1, y2⟩ := HQ.out k y hy
      have hne := neN x y
      have hlt' : (k : Int) < N := by omega
      have HX := hid hx
      have HY := hid hy
      clear hx hy
      by_cases hxy : x = y
      ·simp only [hxy, decide_true, Bool.not_true] at hne
       subst hxy
       go_wp2
       go_quiet (fail)
       go_wp2
       go_roundw
       case rel => exact ⟨k + 1, by omega, by go_num, ⟨_, rfl⟩, hid (by rw [List.take_add_one, List.take_add_one, HX.out, HY.out, HE.out])⟩
       case measure => simp [intOf]; omega
      ·simp only [hxy, decide_false, Bool.not_false] at hne
       have hlr : l ≠ r := fun e => hxy (by have := HX.out; rw [e, HY.out] at this; exact (Option.some.inj this).symm)
       go_wp2
       go_quiet (fail)
       go_wp2
       go_ret
       rw [decide_eq_false hlr]
       exact ⟨rfl, _, World.drewN_drewN _ _ _⟩
     ·have hkN : k = N := by omega
      have hlr : l = r := by
       have := HE.out
       rw [List.take_of_length_le (by omega), List.take_of_length_le (by omega)] at this
       exact this
      subst hkN
      go_wp2
      go_ret
      rw [decide_eq_true hlr]
      exact ⟨rfl, _, rfl⟩
 ·have hne : l ≠ r := fun e => hl (by rw [e])
  obtain ⟨a, c, rfl⟩ := hu.form
  obtain ⟨a', c', rfl⟩ := hv.form
  have hl' : ¬ (l.length : Int) = r.length := by omega
  simp only [hne, decide_false]
  clear hu hv
  generalize l.length = N at *
  generalize r.length = M at *
  go_enter Tryz.func19, Tryz.ntmps19
  go_wp2
  go_ret
  exact ⟨rfl, 0, rfl⟩
def St (w0 : World) (b m n : Nat) (l : List Nod) (W : World) : Prop := ∃ ps f, TreeAt W w0.heap.size b m n ps l f ∧ Below w0.heap.size w0 W
theorem new_st (w : World) : Calls Tryz.prog 74 #[] w fun e w' => e = .returned (.pointer (some ⟨w.heap.size + 1, 0, none⟩)) ∧ St w (w.heap.size + 1) w.heap.size 0 [] w' :=
 (new_any w).mono fun e w' ⟨he, hT, hb⟩ => ⟨he, [], _, hT, hb⟩
theorem St.below {w0 W : World} {b m n : Nat} {l : List Nod} (h : St w0 b m n l W) : Below w0.heap.size w0 W := by
 obtain ⟨ps, f, hT, hB⟩ := h
 exact hB
end
section
open Go.ChangeShapes Go.WideShapes Go.ChangeAt Go.RowKit Go.MapKept Go.ChangeMaps
def fset (f : Int → Int → Option Nat) (o i : Int) (p : Option Nat) : Int → Int → Option Nat := fun a b => if a = o ∧ b = i then p else f a b
structure PutPost (w w' : World) (m n : Nat) (f : Int → Int → Option Nat) (pp : Option Nat) (x : Nod) (u v : Option Nat) (o i : Int) : Prop where
 map : MapS w' m (n + 1) (fset f o i pp)
 at_ : ∀ p, pp = some p → w'.heap[p]? = some (placeO ⟨o, i, x.d⟩ u v)
 os : w'.os = w.os
 tape : w'.tape = w.tape
 output : w'.output = w.output
 size : w.heap.size ≤ w'.heap.size
 block : ∀ k, k < w.heap.size → k ≠ m → pp ≠ some k → w'.heap[k]? = w.heap[k]?
theorem put_any (w : World) (b m n : Nat) (f : Int → Int → Option Nat) (pp : Option Nat) (x : Nod) (u v h0 h1 : Option Nat) (o i : Int) (ho : InS o) (hi : InS i) (hh : w.heap[b]? = some (treeO h0 h1 m)) (hm : MapS w m n f) (hn : n < maxLen)
  (hp : ∀ p, pp = some p → w.heap[p]? = some (placeO x u v)) :
  Calls Tryz.prog 113 #[.pointer (some ⟨b, 0, none⟩), ptrV pp, slV o i] w fun e w' => (∃ v, e = .returned v) ∧ PutPost w w' m n f pp x u v o i := by
 have hmb := map_head hh hm
 have hbl : b < w.heap.size := (ags hh).1
 obtain ⟨c0, c1, c2, cz⟩ := head_cells hh
 have hml := hm.lt
 cases pp with
 | none =>
  have hmW : MapS (w.alloc (slO o i)).drew m n f := hm.of_block (Below.heap_alloc _ _ _ hml)
  obtain ⟨W', hr, hm', ht⟩ := hmW.del ho hi 0
  have HP : Hid (PutPost w W' m n f none x u v o i) := by
   refine hid ?_
   obtain ⟨es, c, es', c', hb, rfl⟩ := ht
   refine ⟨hm'.mono (Nat.le_succ _), fun p e => (by cases e), rfl, rfl, rfl, ?_, fun k hk hkm _ => ?_⟩
   ·simp [setBlock]
   ·exact (heap_setBlock_other hb _ hkm).trans (Below.heap_alloc _ _ _ hk)
  clear hm' ht hmW
  rw [ptrV_none]
  go_enter Tryz.func113, Tryz.ntmps113
  go_upto_region 2 with fail
  go_region
  all_goals
   go_wp2
   (try rw [Exit.noGoto_ret])
   refine bodyPost_ret (results_none rfl _ _ _) rfl ⟨⟨_, rfl⟩, HP.out⟩
 | some p =>
  have hpo := hp p rfl
  have hbp := head_place hh hpo
  have hmp := map_place hpo hm
  have hpl : p < w.heap.size := (ags hpo).1
  obtain ⟨p0, p1, p2, p3, p4, pz⟩ := place_cells hpo
  have hpb : p ≠ b := hbp.symm
  obtain ⟨W, hW⟩ : ∃ W, W = (((w.setCell ⟨p, 0, none⟩ (.int .i64 o)).setCell ⟨p, 1, none⟩ (.int .i64 i)).alloc (slO o i)) := ⟨_, rfl⟩
  have hoth : ∀ k, k < w.heap.size → k ≠ p → W.heap[k]? = w.heap[k]? := fun k hk hkp => by
   rw [hW, Below.heap_alloc _ _ _ (by simpa using hk), Go.heap_setCell_other _ _ _ _ hkp, Go.heap_setCell_other _ _ _ _ hkp]
  have hpW : W.heap[p]? = some (placeO ⟨o, i, x.d⟩ u v) := by
   rw [hW, Below.heap_alloc _ _ _ (by simpa using hpl)]
   exact Go.heap_setCell_same _ _ _ _ _ _ (Go.heap_setCell_same _ _ _ _ _ _ hpo)
  have hmW : MapS W.drew m n f := hm.of_block (hoth m hml hmp)
  obtain ⟨W', hr, hm', ht⟩ := hmW.put hn ho hi p
  rw [ptrV_some] at hr
  have HP : Hid (PutPost w W' m n f (some p) x u v o i) := by
   refine hid ?_
   obtain ⟨es, c, es', c', hb, rfl⟩ := ht
   refine ⟨hm', fun q e => ?_, ?_, ?_, ?_, ?_, fun k hk hkm hkp => ?_⟩
   ·cases e
    exact (heap_setBlock_other hb _ (fun e => hmp e.symm)).trans hpW
   ·rw [hW]; simp [setBlock, World.drew, World.setCell, World.alloc]
   ·rw [hW]; simp [setBlock, World.drew, World.setCell, World.alloc]
   ·rw [hW]; simp [setBlock, World.drew, World.setCell, World.alloc]
   ·rw [hW]; simp [setBlock]
   ·exact (heap_setBlock_other hb _ hkm).trans (hoth k hk (fun e => hkp (by rw [e])))
  have hh2 : W.cell? ⟨b, 2, none⟩ = some (.map (some m)) := (head_cells ((hoth b hbl hbp).trans hh)).2.2.1
  clear hm' ht hmW hpW hoth
  rw [ptrV_some]
  go_enter Tryz.func113, Tryz.ntmps113
  go_upto_region 4 with fail
  subst hW
  go_region
  all_goals
   go_wp2
   go_end0
   exact ⟨⟨_, rfl⟩, HP.out⟩
def sw (o i p j : Int) (x : Nod) : Nod := if x.o = o ∧ x.i = i then ⟨p, j, x.d⟩ else if x.o = p ∧ x.i = j then ⟨o, i, x.d⟩ else x
def swapA (l : List Nod) (o i p j : Int) : List Nod := l.map (sw o i p j)
theorem sw_slot (o i p j : Int) (x : Nod) (a c : Int) : ((sw o i p j x).o = a ∧ (sw o i p j x).i = c) ↔ (x.o = (sw o i p j ⟨a, c, 0⟩).o ∧ x.i = (sw o i p j ⟨a, c, 0⟩).i) := by
 obtain ⟨xo, xi, xd⟩ := x
 unfold sw
 simp only
 repeat' split
 all_goals (try simp only)
 all_goals omega
theorem fset_sw (f : Int → Int → Option Nat) (o i p j a c : Int) : fset (fset f p j (f o i)) o i (f p j) a c = f (sw o i p j ⟨a, c, 0⟩).o (sw o i p j ⟨a, c, 0⟩).i := by
 unfold fset sw
 simp only
 split
 ·rfl
 ·split
  ·rfl
  ·rfl
theorem sw_in {o i p j : Int} (ho : InS o) (hi : InS i) (hp : InS p) (hj : InS j) {x : Nod} (h1 : InS x.o) (h2 : InS x.i) : InS (sw o i p j x).o ∧ InS (sw o i p j x).i ∧ (sw o i p j x).d = x.d := by
 unfold sw
 split
 ·exact ⟨hp, hj, rfl⟩
 ·split
  ·exact ⟨ho, hi, rfl⟩
  ·exact ⟨h1, h2, rfl⟩
theorem swap_tree {w W : World} {B b m n : Nat} {ps : List Nat} {l : List Nod} {f : Int → Int → Option Nat} {o i p j : Int} (ho : InS o) (hi : InS i) (hp : InS p) (hj : InS j) (h : TreeAt w B b m n ps l f)
  (hb : W.heap[b]? = w.heap[b]?) (hr : ∀ (k r : Nat) (x : Nod), ps[k]? = some r → l[k]? = some x → W.heap[r]? = some (placeO (sw o i p j x) (prv ps k) ps[k + 1]?))
  (hm : MapS W m (n + 1 + 1) (fset (fset f p j (f o i)) o i (f p j))) : TreeAt W B b m (n + 1 + 1) ps (swapA l o i p j) (fset (fset f p j (f o i)) o i (f p j)) := by
 have hget : ∀ {k : Nat} {y : Nod}, (swapA l o i p j)[k]? = some y → ∃ x, l[k]? = some x ∧ y = sw o i p j x := by
  intro k y hy
  unfold swapA at hy
  rw [List.getElem?_map] at hy
  obtain ⟨x, hx, e⟩ := Option.map_eq_some_iff.1 hy
  exact ⟨x, hx, e.symm⟩
 have hll : (swapA l o i p j).length = l.length := by unfold swapA; simp
 have hle := h.le
 refine ⟨by rw [hll]; exact h.len, by omega, hb.trans h.head, ?_, h.inj, h.gb, h.gm, h.gp, ?_, ?_, hm, ?_⟩
 ·intro k r y hk hy
  obtain ⟨x, hx, rfl⟩ := hget hy
  exact hr k r x hk hx
 ·intro k q y z hk hq h1 h2
  obtain ⟨x, hx, rfl⟩ := hget hk
  obtain ⟨x', hx', rfl⟩ := hget hq
  have e1 := (sw_slot o i p j x _ _).1 ⟨rfl, rfl⟩
  have e2 := (sw_slot o i p j x' _ _).1 ⟨rfl, rfl⟩
  rw [← h1, ← h2] at e2
  exact h.slots _ _ _ _ hx hx' (e1.1.trans e2.1.symm) (e1.2.trans e2.2.symm)
 ·intro k y hk
  obtain ⟨x, hx, rfl⟩ := hget hk
  obtain ⟨a, c, d, e⟩ := h.ins k x hx
  obtain ⟨a', c', d'⟩ := sw_in ho hi hp hj a c
  exact ⟨a', c', by rw [d']; exact d, by rw [d']; omega⟩
 ·intro a c r ha hc
  obtain ⟨a', c', _⟩ := sw_in (x := ⟨a, c, 0⟩) ho hi hp hj ha hc
  rw [fset_sw, h.finds _ _ r a' c']
  constructor
  ·rintro ⟨k, x, h1, h2, h3⟩
   exact ⟨k, sw o i p j x, h1, by unfold swapA; rw [List.getElem?_map, h2]; rfl, (sw_slot o i p j x a c).2 h3⟩
  ·rintro ⟨k, y, h1, h2, h3⟩
   obtain ⟨x, hx, rfl⟩ := hget h2
   exact ⟨k, x, h1, hx, (sw_slot o i p j x a c).1 h3⟩
end
section
open Go.ChangeShapes Go.WideShapes Go.ChangeAt Go.RowKit
theorem found {W : World} {B b m n : Nat} {ps : List Nat} {l : List Nod} {f : Int → Int → Option Nat} (h : TreeAt W B b m n ps l f) {o i : Int} (ho : InS o) (hi : InS i) :
  ∃ x : Nod, ∃ u v : Option Nat, ∀ p, f o i = some p → W.heap[p]? = some (placeO x u v) ∧ ∃ k : Nat, ps[k]? = some p ∧ l[k]? = some x ∧ x.o = o ∧ x.i = i ∧ u = prv ps k ∧ v = ps[k + 1]? := by
 cases hf : f o i with
 | none => exact ⟨⟨0, 0, 0⟩, none, none, fun p e => by cases e⟩
 | some p =>
  obtain ⟨k, x, h1, h2, h3, h4⟩ := (h.finds o i p ho hi).1 hf
  refine ⟨x, prv ps k, ps[k + 1]?, fun q e => ?_⟩
  cases e
  exact ⟨h.row k p x h1 h2, k, h1, h2, h3, h4, rfl, rfl⟩
theorem swap_end {w w1 w2 w3 : World} {B b m n : Nat} {ps : List Nat} {l : List Nod} {f : Int → Int → Option Nat} {o i p j : Int} {x y y' : Nod} {u v u' v' : Option Nat} (ho : InS o) (hi : InS i) (hp : InS p) (hj : InS j) (h : TreeAt w B b m n ps l f)
  (hb : Below w.heap.size w w1)
  (hx : ∀ r, f o i = some r → w.heap[r]? = some (placeO x u v) ∧ ∃ k : Nat, ps[k]? = some r ∧ l[k]? = some x ∧ x.o = o ∧ x.i = i ∧ u = prv ps k ∧ v = ps[k + 1]?)
  (hy : ∀ r, f p j = some r → w.heap[r]? = some (placeO y u' v') ∧ ∃ k : Nat, ps[k]? = some r ∧ l[k]? = some y ∧ y.o = p ∧ y.i = j ∧ u' = prv ps k ∧ v' = ps[k + 1]?)
  (hy' : y'.d = y.d) (q1 : PutPost w1 w2 m n f (f o i) x u v p j) (q2 : PutPost w2 w3 m (n + 1) (fset f p j (f o i)) (f p j) y' u' v' o i) : Left w w3 B b m (n + 1 + 1) ps (swapA l o i p j) := by
 have hml := h.map.lt
 have hbl : b < w.heap.size := h.lt (.inl rfl)
 have hbm := map_head h.head h.map
 have sz1 := hb.size
 have sz2 := q1.size
 have sz3 := q2.size
 have hk : ∀ k, k < w.heap.size → k ≠ m → f o i ≠ some k → f p j ≠ some k → w3.heap[k]? = w.heap[k]? := fun k hk h1 h2 h3 =>
  (q2.block k (by omega) h1 h3).trans ((q1.block k (by omega) h1 h2).trans (hb.block k hk))
 have hnb : ∀ (r : Nat), f o i = some r ∨ f p j = some r → r ≠ b := by
  rintro r (hr | hr) rfl
  ·exact head_place h.head (hx _ hr).1 rfl
  ·exact head_place h.head (hy _ hr).1 rfl
 refine ⟨ps, _, swap_tree ho hi hp hj h ?_ ?_ q2.map, ?_⟩
 ·exact hk b hbl hbm.symm (fun e => hnb b (.inl e) rfl) (fun e => hnb b (.inr e) rfl)
 ·intro k r z hr hz
  have hrw := h.row k r z hr hz
  have hrl : r < w.heap.size := h.lt (foot_at hr)
  have hrm : r ≠ m := (map_place hrw h.map).symm
  by_cases e2 : f p j = some r
  ·obtain ⟨_, k', a1, a2, a3, a4, a5, a6⟩ := hy r e2
   obtain rfl := h.inj _ _ _ a1 hr
   rw [hz] at a2
   cases a2
   rw [q2.at_ r e2, a5, a6, hy']
   have : sw o i p j y = ⟨o, i, y.d⟩ := by
    unfold sw
    split
    ·rename_i hc
     rw [a3, a4] at hc
     rw [hc.1, hc.2]
    ·rw [if_pos ⟨a3, a4⟩]
   rw [this]
  ·by_cases e1 : f o i = some r
   ·obtain ⟨_, k', a1, a2, a3, a4, a5, a6⟩ := hx r e1
    obtain rfl := h.inj _ _ _ a1 hr
    rw [hz] at a2
    cases a2
    rw [q2.block r (by omega) hrm e2, q1.at_ r e1, a5, a6]
    have : sw o i p j x = ⟨p, j, x.d⟩ := by
     unfold sw
     rw [if_pos ⟨a3, a4⟩]
    rw [this]
   ·rw [hk r hrl hrm e1 e2, hrw]
    obtain ⟨z1, z2, _⟩ := h.ins k z hz
    have : sw o i p j z = z := by
     unfold sw
     rw [if_neg (fun e => e1 ((h.finds o i r ho hi).2 ⟨k, z, hr, hz, e⟩)), if_neg (fun e => e2 ((h.finds p j r hp hj).2 ⟨k, z, hr, hz, e⟩))]
    rw [this]
 ·refine ⟨q2.os.trans (q1.os.trans hb.os), q2.tape.trans (q1.tape.trans hb.tape), q2.output.trans (q1.output.trans hb.output), by omega, fun k hkl hf => ?_, fun k _ h => h⟩
  refine hk k hkl (fun e => hf (.inr (.inl e))) (fun e => ?_) (fun e => ?_)
  ·obtain ⟨_, k', a1, _⟩ := hx k e
   exact hf (foot_at a1)
  ·obtain ⟨_, k', a1, _⟩ := hy k e
   exact hf (foot_at a1)
def moveA (l : List Nod) (o i p j : Int) : List Nod × Int := if (idx l o i).isSome then (if (idx l p j).isSome then (l, 11) else (swapA l o i p j, 0)) else (l, 10)
structure Sl2 (W : World) (s : Nat) (o i : Int) : Prop where
 c0 : W.cell? ⟨s, 0, none⟩ = some (.int .i64 o)
 c1 : W.cell? ⟨s, 1, none⟩ = some (.int .i64 i)
 lt : s < W.heap.size
theorem Sl2.call {W W' : World} {s : Nat} {o i : Int} (h : Sl2 W s o i) (hb : Below W.heap.size W W') : Sl2 W' s o i :=
 ⟨(hb.cell (p := ⟨s, 0, none⟩) h.lt).trans h.c0, (hb.cell (p := ⟨s, 1, none⟩) h.lt).trans h.c1, Nat.lt_of_lt_of_le h.lt hb.size⟩
theorem Sl2.of_block {W W' : World} {s : Nat} {o i : Int} (h : Sl2 W s o i) (e : W'.heap[s]? = W.heap[s]?) (hs : W.heap.size ≤ W'.heap.size) : Sl2 W' s o i := by
 have q : ∀ k, W'.cell? ⟨s, k, none⟩ = W.cell? ⟨s, k, none⟩ := fun k => by unfold World.cell?; simp only [e]
 exact ⟨(q 0).trans h.c0, (q 1).trans h.c1, Nat.lt_of_lt_of_le h.lt hs⟩
theorem Sl2.fresh (W : World) (o i : Int) : Sl2 (W.alloc (slO o i)) W.heap.size o i := by
 have hb := World.alloc_heap_new W (slO o i)
 refine ⟨?_, ?_, by simp⟩ <;> (unfold World.cell?; simp only [hb]; rfl)
theorem Sl2.fresh2 (W : World) (o i p j : Int) : Sl2 ((W.alloc (slO o i)).alloc (slO p j)) W.heap.size o i ∧ Sl2 ((W.alloc (slO o i)).alloc (slO p j)) (W.heap.size + 1) p j := by
 refine ⟨(Sl2.fresh W o i).call (bal (Below.refl _ _) _), ?_⟩
 have := Sl2.fresh (W.alloc (slO o i)) p j
 rw [World.size_alloc] at this
 exact this
theorem swap_slot {w w1 w2 : World} {B b m n : Nat} {ps : List Nat} {l : List Nod} {f : Int → Int → Option Nat} {o i p j : Int} {x : Nod} {u v fo : Option Nat} (h : TreeAt w B b m n ps l f) (hb : Below w.heap.size w w1)
  (hx : ∀ r, fo = some r → w.heap[r]? = some (placeO x u v) ∧ ∃ k : Nat, ps[k]? = some r ∧ l[k]? = some x ∧ x.o = o ∧ x.i = i ∧ u = prv ps k ∧ v = ps[k + 1]?) (hfo : f o i = fo)
  (hs : Sl2 w1 w.heap.size o i) (q1 : PutPost w1 w2 m n f fo x u v p j) : Sl2 w2 w.heap.size o i := by
 refine hs.of_block (q1.block _ hs.lt ?_ ?_) q1.size
 ·have := h.map.lt; omega
 ·intro e
  obtain ⟨_, k, a1, _⟩ := hx _ e
  have := h.lt (foot_at (b := b) (m := m) a1)
  omega
theorem swap_second {w w1 w2 : World} {B b m n : Nat} {ps : List Nat} {l : List Nod} {f : Int → Int → Option Nat} {o i p j : Int} {x y : Nod} {u v u' v' fo fp : Option Nat} (ho : InS o) (hi : InS i) (hp : InS p) (hj : InS j) (h : TreeAt w B b m n ps l f) (hb : Below w.heap.size w w1)
  (hx : ∀ r, fo = some r → w.heap[r]? = some (placeO x u v) ∧ ∃ k : Nat, ps[k]? = some r ∧ l[k]? = some x ∧ x.o = o ∧ x.i = i ∧ u = prv ps k ∧ v = ps[k + 1]?)
  (hy : ∀ r, fp = some r → w.heap[r]? = some (placeO y u' v') ∧ ∃ k : Nat, ps[k]? = some r ∧ l[k]? = some y ∧ y.o = p ∧ y.i = j ∧ u' = prv ps k ∧ v' = ps[k + 1]?)
  (hfo : f o i = fo) (hfp : f p j = fp) (hn : n < 1000000) (q1 : PutPost w1 w2 m n f fo x u v p j) :
  Calls Tryz.prog 113 #[.pointer (some ⟨b, 0, none⟩), ptrV fp, slV o i] w2 fun e w' => (∃ v, e = .returned v) ∧ PutPost w2 w' m (n + 1) (fset f p j fo) fp y u' v' o i := by
 have hbm := map_head h.head h.map
 have hbl : b < w.heap.size := h.lt (.inl rfl)
 have sz := hb.size
 refine put_any w2 b m (n + 1) (fset f p j fo) fp y u' v' ps[0]? (prv ps ps.length) o i ho hi ?_ q1.map (by unfold maxLen; omega) ?_
 ·refine (q1.block b (by omega) hbm.symm ?_).trans ((hb.block b hbl).trans h.head)
  intro e
  exact head_place h.head (hx b e).1 rfl
 ·intro r e
  obtain ⟨hr, k, a1, a2, a3, a4, a5, a6⟩ := hy r e
  have hrl : r < w.heap.size := h.lt (foot_at a1)
  by_cases e1 : fo = some r
  ·obtain ⟨_, k', c1, c2, c3, c4, c5, c6⟩ := hx r e1
   obtain rfl := h.inj _ _ _ a1 c1
   rw [a2] at c2
   cases c2
   rw [q1.at_ r e1, c5, c6, a5, a6]
   obtain ⟨yo, yi, yd⟩ := x
   simp only at a3 a4
   rw [a3, a4]
  ·exact (q1.block r (by omega) (map_place hr h.map).symm e1).trans ((hb.block r hrl).trans hr)
theorem swap_any (w : World) (B b m n : Nat) (ps : List Nat) (l : List Nod) (f : Int → Int → Option Nat) (o i p j : Int) (ho : InS o) (hi : InS i) (hp : InS p) (hj : InS j) (h : TreeAt w B b m n ps l f) (hn : n < 1000000) :
    Calls Tryz.prog 91 #[.pointer (some ⟨b, 0, none⟩), slV o i, slV p j] w fun e w' => e = .returned (.int .i64 0) ∧ Left w w' B b m (n + 1 + 1) ps (swapA l o i p j) := by
  have hal : Below w.heap.size w ((w.alloc (slO o i)).alloc (slO p j)).drew := (bal (bal (Below.refl _ _) _) _).drew
  have HA := hid hal
  have hl1 := h.look (W := ((w.alloc (slO o i)).alloc (slO p j)).drew) (hal.block m (h.lt (.inr (.inl rfl)))) ho hi
  have hl2 := h.look (W := ((w.alloc (slO o i)).alloc (slO p j)).drew) (hal.block m (h.lt (.inr (.inl rfl)))) hp hj
  obtain ⟨c0, c1, c2, cz⟩ := head_cells h.head
  have hbl : b < w.heap.size := h.lt (.inl rfl)
  obtain ⟨x, u, v, hx⟩ := found h ho hi
  obtain ⟨y, u', v', hy⟩ := found h hp hj
  have H := hid h
  have HX := hid hx
  have HY := hid hy
  clear h hal hx hy
  go_enter Tryz.func91, Tryz.ntmps91
  go_upto_region 3 with fail
  go_region
  all_goals
    have hbb : Below w.heap.size w ((w.alloc (slO o i)).alloc (slO p j)).drew := HA.out
    have hS := Sl2.fresh2 w o i p j
    have hput := fun hh hm hx' => put_any ((w.alloc (slO o i)).alloc (slO p j)).drew b m n f (f o i) x u v ps[0]? (prv ps ps.length) p j hp hj hh hm (by unfold maxLen; omega) hx'
    have HPUT := hid (hput ((hbb.block b hbl).trans H.out.head) (H.out.map.of_block (hbb.block m (H.out.lt (.inr (.inl rfl))))) (fun r e => (hbb.block r (by
        obtain ⟨_, k, a1, _⟩ := HX.out r e
        exact H.out.lt (foot_at a1))).trans (HX.out r e).1))
    have HS := hid hS
    clear hbb hput hS hl1 hl2 c0 c1 c2 cz
    generalize hfo : f o i = fo at *
    generalize hfp : f p j = fp at *
    have HFO := hid hfo
    have HFP := hid hfp
    clear hfo hfp
    go_wp2_with (first
      | (go_at_call 113; with_reducible refine HPUT2.out.mono ?_; rintro e w3 ⟨⟨v9, rfl⟩, q2⟩; have HQ2 := hid q2; clear q2)
      | (go_at_call 113; with_reducible refine HPUT.out.mono ?_; rintro e w2 ⟨⟨v8, rfl⟩, q1⟩; have HQ1 := hid q1; clear q1;
         have HPUT2 := hid (swap_second ho hi hp hj H.out HA.out HX.out HY.out HFO.out HFP.out hn HQ1.out);
         obtain ⟨a0, a1, alt⟩ := swap_slot H.out HA.out HX.out HFO.out (HS.out.1.call (Below.drew (Below.refl _ _))) HQ1.out))
    go_ret
    refine ⟨rfl, ?_⟩
    have hfo := HFO.out
    have hfp := HFP.out
    subst hfo hfp
    exact swap_end ho hi hp hj H.out HA.out HX.out HY.out rfl HQ1.out HQ2.out
end
section
open Go.ChangeShapes Go.WideShapes Go.ChangeAt Go.RowKit Go.Shelf
attribute [local go_sem] Oper.semAt_some
abbrev sltC (x : Nod) : List Value := [.int .i64 x.o, .int .i64 x.i]
def slsC (l : List Nod) : List Value := l.flatMap sltC
theorem slsC_snoc (l : List Nod) (x : Nod) : slsC (l ++ [x]) = slsC l ++ sltC x := by simp [slsC]
theorem infoSl : (Tryz.prog.info? 30).map (fun i => (i.zero, i.size, i.bytes)) = some (some (.agg #[.int .i64 0, .int .i64 0]), 2, 16) := by kernel_rfl
def belowA (l : List Nod) (o i : Int) : List Nod :=
 match idx l o i with
 | none => []
 | some k => (l.drop (k + 1)).take (belowN l k)
theorem own_kept {A C : World} {base : Nat} {e : TypeId} {s : Nat} {v : Value} {n : Nat} {xs : List Value} {row : Option Nat} (h : A.ownsRow base e s v n xs) (hg : A.grownBy C row) (hr : ∀ r, row = some r → ∃ o : Obj, A.heap[r]? = some o ∧ o.isCells = false) : C.ownsRow base e s v n xs := by
 have hlt := h.lt
 refine ⟨h.1, ?_⟩
 rcases h.2 with h2 | ⟨g, cap, cur, rfl, q1, q2, q3⟩
 ·exact .inl h2
 ·refine .inr ⟨g, cap, cur, rfl, q1, (hg.block g (hlt g rfl).2 (fun e => ?_)).trans q2, q3⟩
  obtain ⟨o, ho, hc⟩ := hr g e.symm
  rw [q2] at ho
  cases ho
  cases hc
theorem own_block {A C : World} {base : Nat} {e : TypeId} {s : Nat} {v : Value} {n : Nat} {xs : List Value} (h : A.ownsRow base e s v n xs) (k : ∀ g, v.ownBlock = some g → C.heap[g]? = A.heap[g]?) : C.ownsRow base e s v n xs := by
 refine ⟨h.1, ?_⟩
 rcases h.2 with h2 | ⟨g, cap, cur, rfl, q1, q2, q3⟩
 ·exact .inl h2
 ·exact .inr ⟨g, cap, cur, rfl, q1, (k g rfl).trans q2, q3⟩
structure BelI (w1 : World) (ps : List Nat) (l : List Nod) (k p : Nat) (pre : List Nat) (W : World) : Prop where
 list : ∃ v, W.heap[w1.heap.size]? = some (.cells #[v] 55 (0, 0)) ∧ W.ownsRow (w1.heap.size + 2) 30 2 v pre.length (slsC ((l.drop (k + 1)).take pre.length))
 box : W.heap[w1.heap.size + 1]? = some (.cells #[.pointer (some ⟨p, 0, none⟩)] 119 (0, 0))
 lt : w1.heap.size + 2 ≤ W.heap.size
 below : Below w1.heap.size w1 W
theorem BelI.own {w1 : World} {ps : List Nat} {l : List Nod} {k p : Nat} : OwnFrom (w1.heap.size + 2) (BelI w1 ps l k p) := by
 intro s A C row h hg hr
 have e : ∀ j, j < w1.heap.size + 2 → C.heap[j]? = A.heap[j]? := fun j hj => hg.block j (Nat.lt_of_lt_of_le hj h.lt) (fun e => by have := (hr j e.symm).1; omega)
 obtain ⟨v, hv, hrow⟩ := h.list
 exact ⟨⟨v, (e _ (by omega)).trans hv, own_kept hrow hg (fun r e => (hr r e).2)⟩, (e _ (by omega)).trans h.box, Nat.le_trans h.lt hg.size,
  ⟨hg.os.trans h.below.os, hg.tape.trans h.below.tape, hg.output.trans h.below.output, Nat.le_trans h.below.size hg.size, fun j hj => (e j (by omega)).trans (h.below.block j hj)⟩⟩
theorem BelI.rows {w1 W : World} {B b m n : Nat} {ps : List Nat} {l : List Nod} {f : Int → Int → Option Nat} {k p : Nat} {pre : List Nat} (H : TreeAt w1 B b m n ps l f) (h : BelI w1 ps l k p pre W) : Rows W ps l k pre.length (w1.heap.size + 1) p := by
 have HT := H.call h.below
 refine ⟨(cell_box h.box).1, fun j q hq => ?_, fun j q y hq hy hj => ?_⟩
 ·obtain ⟨z, hz⟩ := get_len HT.len hq
  exact (place_cells (HT.row j q z hq hz)).2.2.2.2.1
 ·exact (place_cells (HT.row j q y hq hy)).2.2.1
theorem BelI.step {w1 W w2 : World} {ps : List Nat} {l : List Nod} {k p x : Nat} {pre : List Nat} {y : Nod} {v v' : Value} {t : TypeId} (h : BelI w1 ps l k p pre W) (hy : l[k + 1 + pre.length]? = some y)
  (hv : W.heap[w1.heap.size]? = some (.cells #[v] 55 (0, 0))) (hrow : W.ownsRow (w1.heap.size + 2) 30 2 v pre.length (slsC ((l.drop (k + 1)).take pre.length)))
  (hown : w2.ownsRow (w1.heap.size + 2) 30 2 v' (pre.length + 1) (slsC ((l.drop (k + 1)).take pre.length) ++ sltC y)) (hg : (W.alloc (.cells #[.int .i64 y.o, .int .i64 y.i] t)).drew.grownBy w2 v.ownBlock) :
  BelI w1 ps l k p (pre ++ [x]) (w2.setCell ⟨w1.heap.size, 0, none⟩ v') ∧ KeepsOthers W (w2.setCell ⟨w1.heap.size, 0, none⟩ v') := by
 have hlt := h.lt
 have sz := hg.size
 simp at sz
 have hvb : ∀ j, v.ownBlock = some j → w1.heap.size + 2 ≤ j ∧ j < W.heap.size := fun j e => hrow.lt j e
 have hvb' : ∀ j, v'.ownBlock = some j → w1.heap.size + 2 ≤ j := fun j e => (hown.lt j e).1
 have e : ∀ j, j < W.heap.size → v.ownBlock ≠ some j → w2.heap[j]? = W.heap[j]? := fun j hj hn => by
  rw [hg.block j (by simp; omega) (fun q => hn q.symm)]
  exact Below.heap_alloc _ _ _ hj
 have e2 : ∀ j, j < w1.heap.size + 2 → w2.heap[j]? = W.heap[j]? := fun j hj => e j (by omega) (fun q => by have := (hvb j q).1; omega)
 have htake : (l.drop (k + 1)).take (pre.length + 1) = (l.drop (k + 1)).take pre.length ++ [y] := by
  rw [List.take_add_one, List.getElem?_drop, hy]; rfl
 refine ⟨⟨⟨v', ?_, ?_⟩, ?_, by simp; omega, ?_⟩, ?_⟩
 ·exact Go.heap_setCell_same _ _ _ _ _ _ ((e2 _ (by omega)).trans hv)
 ·rw [List.length_append, List.length_singleton, htake, slsC_snoc]
  exact own_block hown (fun g hg' => Go.heap_setCell_other _ _ _ _ (by have := hvb' g hg'; simp; omega))
 ·exact (Go.heap_setCell_other _ _ _ _ (by simp)).trans ((e2 _ (by omega)).trans h.box)
 ·refine ⟨?_, ?_, ?_, ?_, fun j hj => ?_⟩
  ·exact hg.os.trans h.below.os
  ·exact hg.tape.trans h.below.tape
  ·exact hg.output.trans h.below.output
  ·simp; omega
  ·exact (Go.heap_setCell_other _ _ _ _ (by simp; omega)).trans ((e2 j (by omega)).trans (h.below.block j hj))
 ·refine ⟨by simp; omega, fun j ob hj hc => ?_⟩
  have hjl := (ags hj).1
  have hne : j ≠ w1.heap.size := fun q => by
   rw [q, hv] at hj
   cases hj
   cases hc
  refine (Go.heap_setCell_other _ _ _ _ hne).trans ((e j hjl (fun q => ?_)).trans hj)
  rcases hrow.2 with ⟨rfl, _⟩ | ⟨g, cap, cur, rfl, _, q2, _⟩
  ·cases q
  ·cases q
   rw [q2] at hj
   cases hj
   cases hc
attribute [-go_sem] Builtin.append_
theorem own_base {A : World} {base base' : Nat} {e : TypeId} {s : Nat} {v : Value} {n : Nat} {xs : List Value} (h : A.ownsRow base e s v n xs) (hb : base' ≤ base) : A.ownsRow base' e s v n xs := by
 refine ⟨h.1, ?_⟩
 rcases h.2 with h2 | ⟨g, cap, cur, rfl, q1, q2, q3⟩
 ·exact .inl h2
 ·exact .inr ⟨g, cap, cur, rfl, by omega, q2, q3⟩
theorem below_fn_in (w : World) (B b m n : Nat) (ps : List Nat) (l : List Nod) (f : Int → Int → Option Nat) (o i : Int) (k p : Nat) (x : Nod) (ho : InS o) (hi : InS i) (h : TreeAt w B b m n ps l f) (hn : n < 1000000) (hk : ps[k]? = some p) (hx : l[k]? = some x) (hxs : x.o = o ∧ x.i = i) :
  CallsIn Fence.wide 3 Tryz.prog 67 #[.pointer (some ⟨b, 0, none⟩), slV o i] w fun e w' => ∃ v, e = .returned v ∧ w'.ownsRow w.heap.size 30 2 v ((l.drop (k + 1)).take (belowN l k)).length (slsC ((l.drop (k + 1)).take (belowN l k))) ∧ Below w.heap.size w w' := by
 have hf : f o i = some p := (h.finds o i p ho hi).2 ⟨k, x, hk, hx, hxs⟩
 have hal : Below w.heap.size w (w.alloc (slO o i)) := bal (Below.refl _ _) _
 have HA := hid hal
 have HS := hid (Sl2.fresh w o i)
 have H := hid h
 have HF := hid hf
 clear hal hf
 obtain ⟨i0, hi0, hz0, hz1, hz2⟩ := info_parts infoSl
 have HI0 := hid hi0
 clear hi0
 refine callsIn_of_wp_marks Tryz.func67 rfl trivial ?_ rfl
 simp only [Tryz.ntmps67, List.size_toArray, List.length_cons, List.length_nil, Nat.reduceAdd, Nat.reduceSub, Array.replicate_succ, Array.replicate_zero, List.push_toArray, List.append_toArray, List.nil_append, List.cons_append]
 gi_wp2_with (refine ⟨trivial, ?_⟩; gi_at_call 103; refine (callsIn_wide.2 (has_any _ B b m n ps l f o i ho hi (H.out.call HA.out))).mono ?_; rw [HF.out]; rintro e w1 ⟨rfl, hb1⟩; obtain ⟨s0, s1, sl⟩ := HS.out.call hb1; have HB1 := hid (HA.out.trans (hb1.mono HA.out.size)); have hT := H.out.call HB1.out; obtain ⟨c0, c1, c2, cz⟩ := head_cells hT.head; have hbl : b < w1.heap.size := hT.lt (.inl rfl); have hl := hT.look (W := (w1.alloc (.cells #[.slice none 0 0] 55)).drew) (Below.heap_alloc _ _ _ hT.map.lt) ho hi; rw [HF.out] at hl; simp only [ptrV] at hl; have HT := hid hT; clear hb1 hT)
 refine wpIn_mono (Q := NoPanic _) ?_ NoPanic.imp
 gi_region_with (first | (refine ⟨trivial, ?_⟩; gi_at_call 104; refine (below_in _ _ _).mono ?_; rintro e w' ⟨rfl, rfl⟩))
 all_goals
  refine NoPanic.normal ?_
  gi_wp2
  obtain ⟨w2, hw2⟩ : ∃ x, x = ((w1.alloc (.cells #[.slice none 0 0] 55)).alloc (.cells #[.pointer (some ⟨p, 0, none⟩)] 119)).drew := ⟨_, rfl⟩
  rw [← hw2]
  have hsz : w2.heap.size = w1.heap.size + 2 := by rw [hw2]; simp
  have hb2 : Below w1.heap.size w1 w2 := hw2 ▸ (bal (bal (Below.refl _ _) _) _).drew
  have inv : BelI w1 ps l k p [] w2 := by
   refine ⟨⟨.slice none 0 0, ?_, World.ownsRow_nil _ _ _ _⟩, ?_, by omega, hb2⟩
   ·rw [hw2]
    have e1 := Below.heap_alloc (w1.alloc (.cells #[.slice none 0 0] 55)) (.cells #[.pointer (some ⟨p, 0, none⟩)] 119) w1.heap.size (by simp)
    exact e1.trans (World.alloc_heap_new w1 _)
   ·rw [hw2]
    have e1 := World.alloc_heap_new (w1.alloc (.cells #[.slice none 0 0] 55)) (.cells #[.pointer (some ⟨p, 0, none⟩)] 119)
    rw [World.size_alloc] at e1
    exact e1
  clear hw2 hl c0 c1 c2 cz s0 s1
  refine wpIn_range_linkedP (α := Nat) rfl (by decide) (gf := 121) (lb := #[.pointer (some ⟨w1.heap.size + 1, 0, none⟩)]) rfl trivial (enters_of Tryz.func121 (by kernel_rfl) rfl)
   (encs := fun x => #[ptrV ps[x]?]) (V := fun pre x => x = k + 1 + pre.length ∧ pre.length < belowN l k) (S := fun xs => xs = List.range' (k + 1) (belowN l k)) (N := belowN l k) (BelI w1 ps l k p) ?hseq (fun _ => rfl) (hsz ▸ BelI.own) inv
   (fun x => { tmps := #[.pointer (some ⟨b, 0, none⟩), slV o i, undef, .pointer (some ⟨w.heap.size, 0, none⟩), .slice none 0 0, .pointer (some ⟨w1.heap.size, 0, none⟩), ptrV ps[x]?, .pointer (some ⟨b, 0, none⟩), .agg #[.int .i64 o, .int .i64 i], .bool true, .bool false, .pointer (some ⟨b, 0, none⟩), .pointer (some ⟨b, 0, none⟩), .pointer (some ⟨b, 2, none⟩), .map (some m), .agg #[.int .i64 o, .int .i64 i], .pointer (some ⟨p, 0, none⟩), .func (.func 121) #[] #[.pointer (some ⟨w1.heap.size + 1, 0, none⟩)], ptrV ps[x]?, undef, undef, undef, undef, undef, undef, undef, undef], defers := [] }) ?hassign ?hbody ?hdone
  case hseq =>
   intro l' J W hB hAb hJI hY h0
   exact below1_linked _ l' (w1.heap.size + 1) W ps l k p x HT.out.len HT.out.inj hk hx J hY h0
    (fun pre W1 j hj => by
     have hbd := below_drewN (Below.refl 0 W1) j
     have hg : W1.grownBy (W1.drewN j) none := ⟨hbd.os, hbd.tape, hbd.output, by rw [World.heap_drewN]; exact Nat.le_refl _, fun q _ _ => by rw [World.heap_drewN]⟩
     exact hAb pre W1 _ none hj hg (fun r e => by cases e)) (fun pre W1 hj => (hJI pre W1 hj).rows HT.out)
  case hassign =>
   intro l' x' W K hK
   gi_wp2
   exact hK
  case hbody =>
   rintro l' pre x' W ⟨rfl, hlt⟩ hI hlen
   obtain ⟨y, hy, hyd⟩ := belowN_in hx hlt
   obtain ⟨q, hq⟩ := get_len HT.out.len.symm hy
   have hTW := HT.out.call hI.below
   have hrq := hTW.row _ q y hq hy
   obtain ⟨q0, q1, q2, q3, q4, qz⟩ := place_cells hrq
   obtain ⟨v, hv, hrow⟩ := hI.list
   obtain ⟨v0, vz⟩ := cell_box hv
   have hql : q < W.heap.size := hTW.lt (foot_at hq)
   have hll := hI.lt
   have hlw : w1.heap.size < W.heap.size := by omega
   have hpl : pre.length ≤ 1000000 := by
    have := (lgs hy).1
    have := HT.out.le
    omega
   obtain ⟨v', w3, hrun, hown, hgrow, _, hat⟩ := run_append_own_at (P := Tryz.prog) (w := (W.alloc (.cells #[.int .i64 y.o, .int .i64 y.i] 30)).drew) (w1.heap.size + 2) 55 55 30 i0 (.agg #[.int .i64 0, .int .i64 0]) 2 16 Tryz.underlying55 HI0.out hz0 hz1 hz2 rfl (by decide) v pre.length _ (hrow.alloc _) ⟨W.heap.size, 0, none⟩ 1 1 (sltC y) rfl (news_at W _ (sltC y) _ rfl) (by simp [Value.oneCell']) (by unfold maxLen; omega) (by omega) (by simp; omega)
   obtain ⟨gg, cc, rfl⟩ : ∃ gg cc, v' = .slice (some ⟨gg, 0, none⟩) (pre.length + 1) cc := by
    rcases hown.2 with ⟨_, h0⟩ | ⟨gg, cc, cur, e, _⟩
    ·omega
    ·exact ⟨gg, cc, e⟩
   have HST := hid (hI.step (x := k + 1 + pre.length) hy hv hrow hown hgrow)
   have hvb : v.ownBlock ≠ some w1.heap.size := fun e => by have := (hrow.lt _ e).1; omega
   have e3 : w3.heap[w1.heap.size]? = W.heap[w1.heap.size]? := (hgrow.block _ (by simp; omega) (fun e => hvb e.symm)).trans (Below.heap_alloc _ _ _ (by omega))
   obtain ⟨g0, gz⟩ := cell_box (e3.trans hv)
   rw [hq, ptrV_some]
   clear hI hTW hrq q2 q3 q4 hy hyd hv hrow hown hgrow hat e3 hvb
   gi_wp2
   gi_region
   all_goals
    gi_wp2
    obtain ⟨a1, a2⟩ := HST.out
    first | exact ⟨a2, a1⟩ | exact ⟨rfl, a2, a1⟩
  case hdone =>
   rintro D xs W hD rfl hI hK
   obtain ⟨v, hv, hrow⟩ := hI.list
   obtain ⟨v0, vz⟩ := cell_box hv
   rw [List.length_range'] at hrow
   have HROW := hid hrow
   have HI := hid hI
   clear hrow hI hv
   gi_wp2
   refine ⟨by simp, .inl ⟨_, _, rfl, run_takeDeferred hK, ?_⟩⟩
   have hD' : w1.heap.size + 2 ≤ D := by omega
   have hput : ∀ j, j ≠ D → (W.putObj D (.deferred none)).heap[j]? = W.heap[j]? := fun j hj => World.putObj_heap_other hj
   have hB := HB1.out.trans (HI.out.below.mono HB1.out.size)
   have s1 := HB1.out.size
   refine ⟨_, results_tmp rfl _ _ _, _, rfl, ?_, hB.os, hB.tape, hB.output, by have := hB.size; simp [World.putObj]; omega, fun j hj => (hput j (by omega)).trans (hB.block j hj)⟩
   have hl2 : ((l.drop (k + 1)).take (belowN l k)).length = belowN l k := by
    have := belowN_le (lgs hx).1
    rw [List.length_take, List.length_drop]; omega
   rw [hl2]
   have h9 := HROW.out
   refine own_block (own_base h9 (by omega)) (fun g hg => hput g (fun e => ?_))
   rcases h9.2 with ⟨rfl, _⟩ | ⟨g', cap, cur, rfl, _, q2, _⟩
   ·cases hg
   ·cases hg
    have e' : g' = D := e
    rw [e', hK] at q2
    cases q2
end
section
open Go.ChangeShapes Go.WideShapes Go.ChangeAt Go.RowKit Go.Shelf
theorem below_any (w : World) (B b m n : Nat) (ps : List Nat) (l : List Nod) (f : Int → Int → Option Nat) (o i : Int) (ho : InS o) (hi : InS i) (h : TreeAt w B b m n ps l f) (hn : n < 1000000) :
  Calls Tryz.prog 67 #[.pointer (some ⟨b, 0, none⟩), slV o i] w fun e w' => ∃ v, e = .returned v ∧ w'.ownsRow w.heap.size 30 2 v (belowA l o i).length (slsC (belowA l o i)) ∧ Below w.heap.size w w' := by
 unfold belowA
 cases hk : idx l o i with
 | some k =>
  obtain ⟨x, hx, hxs⟩ := idx_some hk
  obtain ⟨p, hp⟩ := get_len h.len.symm hx
  exact callsIn_wide.1 (below_fn_in w B b m n ps l f o i k p x ho hi h hn hp hx hxs)
 | none =>
  have hf := h.find ho hi
  rw [hk] at hf
  change f o i = none at hf
  have hal : Below w.heap.size w (w.alloc (slO o i)) := bal (Below.refl _ _) _
  have HA := hid hal
  have H := hid h
  have HF := hid hf
  clear h hal hf hk
  go_enter Tryz.func67, Tryz.ntmps67
  go_wp2_with (go_at_call 103; refine (has_any _ B b m n ps l f o i ho hi (H.out.call HA.out)).mono ?_; rw [HF.out]; rintro e w1 ⟨rfl, hb1⟩)
  go_ret
  exact ⟨_, rfl, World.ownsRow_nil _ _ _ _, HA.out.trans (hb1.mono HA.out.size)⟩
def parUp (l : List Nod) (d : Int) : Nat → Option Nat
 | 0 => none
 | j + 1 => if ((l[j]?).map Nod.d).getD d < d then some j else parUp l d j
structure ActT where
 d : Int
 a : Int
 b : Int
 p : Int
 q : Int
def ActCells (w : World) (b o : Nat) (x : ActT) : Prop :=
 w.cell? ⟨b, o, none⟩ = some (.int .i64 x.d) ∧ w.cell? ⟨b, o + 1, none⟩ = some (.int .i64 x.a) ∧ w.cell? ⟨b, o + 2, none⟩ = some (.int .i64 x.b) ∧ w.cell? ⟨b, o + 3, none⟩ = some (.int .i64 x.p) ∧ w.cell? ⟨b, o + 4, none⟩ = some (.int .i64 x.q)
def ActT.Ok (x : ActT) : Prop := InS x.a ∧ InS x.b ∧ InS x.p ∧ InS x.q
def ActsAt (w : World) (p : Option Addr) (n : Nat) (D : Nat → ActT) : Prop :=
 ∃ b off, (0 < n → p = some ⟨b, off, none⟩ ∧ b < w.heap.size) ∧ ∀ k, k < n → ActCells w b (off + k * 5) (D k) ∧ (D k).Ok
theorem wf_S {n : Int} (h : (Lit.int .i64 n).wf = true) : InS n := by
 have e1 : IntKind.i64.min = -9223372036854775808 := by decide
 have e2 : IntKind.i64.max = 9223372036854775807 := by decide
 simp only [Lit.wf, e1, e2, Bool.and_eq_true, decide_eq_true_eq] at h
 exact h
def stepA (l : List Nod) (x : ActT) : List Nod :=
 if x.d = 0 then (rootA l x.a x.b).1 else if x.d = 1 then (childA l x.a x.b x.p x.q).1 else if x.d = 2 then (removeA l x.a x.b).1 else if x.d = 3 then (moveA l x.a x.b x.p x.q).1 else if x.d = 4 then swapA l x.a x.b x.p x.q else l
def playL (D : Nat → ActT) : Nat → List Nod
 | 0 => []
 | k + 1 => stepA (playL D k) (D k)
def SameK (K : Nat → Prop) (W W' : World) : Prop := ∀ k, K k → W'.heap[k]? = W.heap[k]?
def KV (v : Value) (k : Nat) : Prop := v.ownBlock = some k
theorem sw_comm (o i p j : Int) (x : Nod) : sw p j o i x = sw o i p j x := by
 obtain ⟨xo, xi, xd⟩ := x
 unfold sw
 simp only
 repeat' split
 all_goals (try simp only [Nod.mk.injEq, and_true])
 all_goals omega
theorem swapA_comm (l : List Nod) (o i p j : Int) : swapA l p j o i = swapA l o i p j := by
 unfold swapA
 have : sw p j o i = sw o i p j := by funext x; exact sw_comm o i p j x
 rw [this]
structure Dep (l : List Nod) : Prop where
 zero : ∀ x, l[0]? = some x → x.d = 0
 step : ∀ (k : Nat) (x y : Nod), l[k]? = some x → l[k + 1]? = some y → y.d ≤ x.d + 1
 pos : ∀ (k : Nat) (x : Nod), l[k]? = some x → 0 ≤ x.d
theorem dep_nil : Dep [] := ⟨fun x h => by simp at h, fun k x y h => by simp at h, fun k x h => by simp at h⟩
theorem dep_ins {l : List Nod} {q : Nat} {x : Nod} (h : Dep l) (hq : q ≤ l.length) (h0 : q = 0 → x.d = 0) (h1 : ∀ k y, q = k + 1 → l[k]? = some y → x.d ≤ y.d + 1) (h2 : ∀ y, l[q]? = some y → y.d ≤ x.d + 1) (h3 : 0 ≤ x.d) (h4 : q = 0 → l = []) : Dep (l.insertIdx q x) := by
 refine ⟨fun y hy => ?_, fun k y z hy hz => ?_, fun k y hy => ?_⟩
 ·rcases ins_get hq hy with ⟨e, hr⟩ | ⟨e, rfl⟩ | ⟨j, e, _⟩
  ·exact h.zero y hr
  ·exact h0 e.symm
  ·omega
 ·rcases ins_get hq hy with ⟨e, hr⟩ | ⟨rfl, rfl⟩ | ⟨j, rfl, e, hr⟩
  ·by_cases e2 : k + 1 = q
   ·subst e2
    rw [ins_at hq] at hz
    cases hz
    exact h1 k y rfl hr
   ·rw [ins_lo (by omega)] at hz
    exact h.step k y z hr hz
  ·rw [ins_hi (Nat.le_refl _)] at hz
   exact h2 z hz
  ·rw [ins_hi (by omega)] at hz
   exact h.step j y z hr hz
 ·rcases ins_get hq hy with ⟨e, hr⟩ | ⟨e, rfl⟩ | ⟨j, e, _, hr⟩
  ·exact h.pos _ _ hr
  ·exact h3
  ·exact h.pos _ _ hr
theorem dep_root {l : List Nod} (h : Dep l) (o i : Int) : Dep (rootA l o i).1 := by
 unfold rootA
 split
 ·exact h
 ·refine dep_ins h (Nat.le_refl _) (fun _ => rfl) (fun k y _ hy => ?_) (fun y hy => ?_) (Int.le_refl _) (fun e => List.length_eq_zero_iff.1 e)
  ·have := h.pos k y hy
   show (0 : Int) ≤ _
   omega
  ·simp at hy
theorem dep_child {l : List Nod} (h : Dep l) (o i p j : Int) : Dep (childA l o i p j).1 := by
 unfold childA
 cases hk : idx l o i with
 | none => exact h
 | some k =>
  simp only
  split
  ·exact h
  ·obtain ⟨x, hx, _⟩ := idx_some hk
   have hxd : (l[k]?.map Nod.d).getD 0 = x.d := by rw [hx]; rfl
   rw [hxd]
   have hkl : k < l.length := (lgs hx).1
   refine dep_ins h (by omega) (fun e => by omega) (fun k' y e hy => ?_) (fun y hy => ?_) ?_ (fun e => by omega)
   ·obtain rfl : k = k' := by omega
    rw [hx] at hy
    cases hy
    exact Int.le_refl _
   ·have := h.step k x y hx hy
    show y.d ≤ x.d + 1 + 1
    omega
   ·have := h.pos k x hx
    show 0 ≤ x.d + 1
    omega
theorem low_d {l : List Nod} {k j : Nat} {x y : Nod} (hx : l[k]? = some x) (hy : l[j]? = some y) (hj : k < j) : ∃ z, (low l k (belowN l k))[j]? = some z ∧ ((j < k + 1 + belowN l k ∧ x.d < y.d ∧ z.d = y.d - 1) ∨ (k + 1 + belowN l k ≤ j ∧ z.d = y.d)) := by
 by_cases e : j < k + 1 + belowN l k
 ·refine ⟨{ y with d := y.d - 1 }, ?_, .inl ⟨e, ?_, rfl⟩⟩
  ·rw [low_get, hy]
   show some (if _ then _ else _) = _
   rw [if_pos ⟨hj, e⟩]
  ·obtain ⟨c, rfl⟩ : ∃ c, j = k + 1 + c := ⟨j - (k + 1), by omega⟩
   obtain ⟨z, hz, hd⟩ := belowN_in hx (c := c) (by omega)
   rw [hy] at hz
   cases hz
   exact hd
 ·exact ⟨y, by rw [low_out (by omega)]; exact hy, .inr ⟨by omega, rfl⟩⟩
theorem dep_low {l : List Nod} (h : Dep l) {k : Nat} {x : Nod} (hx : l[k]? = some x) : Dep ((low l k (belowN l k)).eraseIdx k) := by
 have hxp := h.pos k x hx
 -- what stands behind the k-th
 have hb : ∀ (j : Nat) (z : Nod), k < j → (low l k (belowN l k))[j]? = some z → ∃ y, l[j]? = some y ∧ ((j < k + 1 + belowN l k ∧ x.d < y.d ∧ z.d = y.d - 1) ∨ (k + 1 + belowN l k ≤ j ∧ z.d = y.d)) := by
  intro j z hj hz
  obtain ⟨y, hy, _⟩ := low_slot hz
  obtain ⟨z', hz', hc⟩ := low_d hx hy hj
  rw [hz] at hz'
  cases hz'
  exact ⟨y, hy, hc⟩
 have hnext : ∀ y, l[k + 1 + belowN l k]? = some y → y.d ≤ x.d := fun y hy => belowN_out hx hy
 refine ⟨fun z hz => ?_, fun j u z hu hz => ?_, fun j z hz => ?_⟩
 ·by_cases e : k = 0
  ·subst e
   rw [del_hi (Nat.le_refl _)] at hz
   obtain ⟨y, hy, hc⟩ := hb 1 z (by omega) hz
   have h0 := h.zero x hx
   have h1 := h.step 0 x y hx hy
   have h2 := h.pos 1 y hy
   rcases hc with ⟨_, _, hd⟩ | ⟨hl, hd⟩
   ·omega
   ·have hN : belowN l 0 = 0 := by omega
    have := hnext y (by rw [hN]; exact hy)
    omega
  ·rw [del_lo (by omega), low_out (by omega)] at hz
   exact h.zero z hz
 ·rcases Nat.lt_trichotomy (j + 1) k with e | e | e
  ·rw [del_lo (by omega), low_out (by omega)] at hu hz
   exact h.step j u z hu hz
  ·rw [del_lo (by omega), low_out (by omega)] at hu
   rw [e, del_hi (Nat.le_refl _)] at hz
   obtain ⟨y, hy, hc⟩ := hb _ z (by omega) hz
   have h1 := h.step j u x hu (by rw [e]; exact hx)
   have h2 := h.step k x y hx hy
   rcases hc with ⟨_, _, hd⟩ | ⟨hl, hd⟩
   ·omega
   ·have hN : belowN l k = 0 := by omega
    have := hnext y (by rw [hN]; exact hy)
    omega
  ·rw [del_hi (by omega)] at hu hz
   obtain ⟨y1, hy1, hc1⟩ := hb _ u (by omega) hu
   obtain ⟨y2, hy2, hc2⟩ := hb _ z (by omega) hz
   have h1 := h.step _ _ _ hy1 hy2
   rcases hc1 with ⟨a1, a2, a3⟩ | ⟨a1, a3⟩
   ·rcases hc2 with ⟨b1, b2, b3⟩ | ⟨b1, b3⟩
    ·omega
    ·have e3 : j + 1 + 1 = k + 1 + belowN l k := by omega
     have := hnext y2 (by rw [← e3]; exact hy2)
     omega
   ·rcases hc2 with ⟨b1, b2, b3⟩ | ⟨b1, b3⟩
    ·omega
    ·omega
 ·rw [del_back] at hz
  by_cases e : back k j ≤ k
  ·have hne := back_ne k j
   rw [low_out (by omega)] at hz
   exact h.pos _ _ hz
  ·obtain ⟨y, hy, hc⟩ := hb _ z (by omega) hz
   have := h.pos _ _ hy
   rcases hc with ⟨_, a, b⟩ | ⟨_, b⟩ <;> omega
theorem dep_remove {l : List Nod} (h : Dep l) (o i : Int) : Dep (removeA l o i).1 := by
 unfold removeA
 cases hk : idx l o i with
 | none => exact h
 | some k =>
  obtain ⟨x, hx, _⟩ := idx_some hk
  exact dep_low h hx
theorem dep_swap {l : List Nod} (h : Dep l) (o i p j : Int) : Dep (swapA l o i p j) := by
 have hg : ∀ {k : Nat} {y : Nod}, (swapA l o i p j)[k]? = some y → ∃ x, l[k]? = some x ∧ y.d = x.d := by
  intro k y hy
  unfold swapA at hy
  rw [List.getElem?_map] at hy
  obtain ⟨x, hx, e⟩ := Option.map_eq_some_iff.1 hy
  refine ⟨x, hx, ?_⟩
  rw [← e]
  unfold sw
  split
  ·rfl
  ·split <;> rfl
 refine ⟨fun y hy => ?_, fun k y z hy hz => ?_, fun k y hy => ?_⟩
 ·obtain ⟨x, hx, e⟩ := hg hy
  rw [e]; exact h.zero x hx
 ·obtain ⟨x, hx, e⟩ := hg hy
  obtain ⟨x', hx', e'⟩ := hg hz
  rw [e, e']; exact h.step k x x' hx hx'
 ·obtain ⟨x, hx, e⟩ := hg hy
  rw [e]; exact h.pos k x hx
def Once (l : List Nod) : Prop := ∀ (k j : Nat) (x y : Nod), l[k]? = some x → l[j]? = some y → x.o = y.o → x.i = y.i → k = j
theorem eqS (a b c d : Int) (w : World) : (binOp .eql 30 (slV a b) (slV c d)).run Tryz.prog w = .ok (.bool (decide (a = c ∧ b = d))) w := by
 go_simp
 repeat (split <;> simp_all)
theorem neS (a b c d : Int) (w : World) : (binOp .neq 30 (slV a b) (slV c d)).run Tryz.prog w = .ok (.bool (!decide (a = c ∧ b = d))) w := by
 go_simp
 repeat (split <;> simp_all)
def SlotsAt (W : World) (v : Value) (l : List Nod) : Prop :=
 (v = .slice none 0 0 ∧ l = []) ∨ ∃ g c, v = .slice (some ⟨g, 0, none⟩) l.length c ∧ g < W.heap.size ∧ ∀ (k : Nat) (x : Nod), l[k]? = some x → W.cell? ⟨g, k * 2, none⟩ = some (.int .i64 x.o) ∧ W.cell? ⟨g, k * 2 + 1, none⟩ = some (.int .i64 x.i)
theorem SlotsAt.call {W W' : World} {v : Value} {l : List Nod} (h : SlotsAt W v l) (hb : Below W.heap.size W W') : SlotsAt W' v l := by
 rcases h with h | ⟨g, c, rfl, hg, hc⟩
 ·exact .inl h
 ·refine .inr ⟨g, c, rfl, Nat.lt_of_lt_of_le hg hb.size, fun k x hx => ?_⟩
  obtain ⟨a1, a2⟩ := hc k x hx
  exact ⟨(hb.cell (p := ⟨g, _, none⟩) hg).trans a1, (hb.cell (p := ⟨g, _, none⟩) hg).trans a2⟩
theorem slsC_get : ∀ (l : List Nod) (k : Nat) (x : Nod), l[k]? = some x → (slsC l)[k * 2]? = some (.int .i64 x.o) ∧ (slsC l)[k * 2 + 1]? = some (.int .i64 x.i)
 | [], k, x, h => by simp at h
 | y :: l, 0, x, h => by simp at h; subst h; exact ⟨rfl, rfl⟩
 | y :: l, k + 1, x, h => by
  obtain ⟨a1, a2⟩ := slsC_get l k x (by simpa using h)
  have e : slsC (y :: l) = .int .i64 y.o :: .int .i64 y.i :: slsC l := rfl
  rw [e, show (k + 1) * 2 = k * 2 + 1 + 1 by omega]
  exact ⟨a1, a2⟩
theorem slots_row {W : World} {B : Nat} {e : TypeId} {v : Value} {l : List Nod} (h : W.ownsRow B e 2 v l.length (slsC l)) : SlotsAt W v l := by
 have hlt := h.lt
 have hcs := fun g hg => h.cells (g := g) hg
 obtain ⟨hl, ⟨rfl, h⟩ | ⟨g, cap, cur, rfl, hg, hblk, h1, h2, h3, h4⟩⟩ := h
 ·exact .inl ⟨rfl, List.length_eq_zero_iff.1 h⟩
 ·refine .inr ⟨g, cap, rfl, (hlt g rfl).2, fun k x hx => ?_⟩
  have e : ∀ j, ((⟨g, 0, none⟩ : Addr).add j) = ⟨g, j, none⟩ := fun j => by unfold Addr.add; split <;> simp_all
  obtain ⟨a1, a2⟩ := slsC_get l k x hx
  have b1 := hcs g rfl _ _ a1
  have b2 := hcs g rfl _ _ a2
  rw [e] at b1 b2
  exact ⟨b1, b2⟩
def dep (l : List Nod) (k : Nat) : Int := ((l[k]?).map Nod.d).getD 0
structure Bx (W : World) (s : Nat) (o i : Int) : Prop where
 c0 : W.cell? ⟨s, 0, none⟩ = some (.int .i64 o)
 c1 : W.cell? ⟨s, 1, none⟩ = some (.int .i64 i)
 fz : ∀ k, W.frozen? ⟨s, k, none⟩ = false
 lt : s < W.heap.size
 blk : W.heap[s]? = some (slO o i)
theorem Bx.call {W W' : World} {s : Nat} {o i : Int} (h : Bx W s o i) (hb : Below W.heap.size W W') : Bx W' s o i :=
 ⟨(hb.cell (p := ⟨s, 0, none⟩) h.lt).trans h.c0, (hb.cell (p := ⟨s, 1, none⟩) h.lt).trans h.c1, fun k => (hb.frozen (p := ⟨s, k, none⟩) h.lt).trans (h.fz k), Nat.lt_of_lt_of_le h.lt hb.size, (hb.block _ h.lt).trans h.blk⟩
theorem Bx.fresh (W : World) (o i : Int) : Bx (W.alloc (slO o i)) W.heap.size o i := by
 have hb := World.alloc_heap_new W (slO o i)
 refine ⟨?_, ?_, fun k => Go.frozen_of_row _ _ _ _ _ hb, by simp, hb⟩ <;> (unfold World.cell?; simp only [hb]; rfl)
theorem idx_self {l : List Nod} (hO : Once l) {k : Nat} {y : Nod} (hy : l[k]? = some y) : idx l y.o y.i = some k := by
 cases e : idx l y.o y.i with
 | none => exact absurd ⟨rfl, rfl⟩ (idx_none e hy)
 | some k' =>
  obtain ⟨z, hz, h1, h2⟩ := idx_some e
  rw [hO k' k z y hz hy h1 h2]
theorem belowA_len (l : List Nod) (o i : Int) : (belowA l o i).length ≤ l.length := by
 unfold belowA
 split
 ·simp
 ·rw [List.length_take, List.length_drop]; omega
theorem three_cells {w2 W : World} {g k : Nat} {x : Nod} (hg : g < w2.heap.size) (h : w2.cell? ⟨g, k * 3, none⟩ = some (.int .i64 x.o) ∧ w2.cell? ⟨g, k * 3 + 1, none⟩ = some (.int .i64 x.i) ∧ w2.cell? ⟨g, k * 3 + 2, none⟩ = some (.int .i64 x.d)) (hb : Below w2.heap.size w2 W) :
  W.cell? ⟨g, k * 3, none⟩ = some (.int .i64 x.o) ∧ W.cell? ⟨g, k * 3 + 1, none⟩ = some (.int .i64 x.i) ∧ W.cell? ⟨g, k * 3 + 2, none⟩ = some (.int .i64 x.d) :=
 ⟨(hb.cell (p := ⟨g, _, none⟩) hg).trans h.1, (hb.cell (p := ⟨g, _, none⟩) hg).trans h.2.1, (hb.cell (p := ⟨g, _, none⟩) hg).trans h.2.2⟩
structure RefT (W : World) (rb : Nat) (v : Value) (l : List Nod) : Prop where
 blk : W.heap[rb]? = some (.cells #[v] 85 (0, 0))
 row : W.ownsRow 0 44 3 v l.length (nodsC l)
 ne : v.ownBlock ≠ some rb
 le : l.length ≤ 1000
 dep : ∀ x ∈ l, -1000 ≤ x.d ∧ x.d ≤ 1000
theorem RefT.call {W W' : World} {rb : Nat} {v : Value} {l : List Nod} (h : RefT W rb v l) (hb : Below W.heap.size W W') : RefT W' rb v l :=
 { h with
  blk := (hb.block _ (ags h.blk).1).trans h.blk
  row := own_block h.row fun g hg => hb.block g (h.row.lt g hg).2 }
theorem RefT.form {W : World} {rb : Nat} {v : Value} {l : List Nod} (h : RefT W rb v l) : ∃ a c, v = .slice a l.length c := (nodes_row h.row).form
def atI (l : List Nod) (o i : Int) : Int := match idx l o i with
 | none => -1
 | some k => k
theorem atI_none {l : List Nod} {o i : Int} (h : ∀ (j : Nat) (x : Nod), l[j]? = some x → ¬ (x.o = o ∧ x.i = i)) : atI l o i = -1 := by
 unfold atI
 cases e : idx l o i with
 | none => rfl
 | some k =>
  obtain ⟨x, hx, e1⟩ := idx_some e
  exact absurd e1 (h k x hx)
theorem atI_first {l : List Nod} {o i : Int} {k : Nat} {x : Nod} (hx : l[k]? = some x) (he : x.o = o ∧ x.i = i) (h : ∀ (j : Nat) (y : Nod), j < k → l[j]? = some y → ¬ (y.o = o ∧ y.i = i)) : atI l o i = k := by
 unfold atI
 have hk := (lgs hx)
 have : idx l o i = some k := by
  unfold idx
  rw [List.findIdx?_eq_some_iff_getElem]
  refine ⟨hk.1, by rw [hk.2]; simpa using he, fun j hj => ?_⟩
  have := h j (l[j]'(by have := hk.1; omega)) hj (List.getElem?_eq_getElem _)
  simpa using this
 rw [this]
theorem rat_any (w : World) (rb : Nat) (v : Value) (l : List Nod) (o i : Int) (h : RefT w rb v l) :
  Calls Tryz.prog 95 #[.pointer (some ⟨rb, 0, none⟩), slV o i] w fun e w' => e = .returned (.int .i64 (atI l o i)) ∧ Below w.heap.size w w' := by
 have hN := nodes_row h.row
 have hrl := (ags h.blk).1
 have hle := h.le
 obtain ⟨r0, rz⟩ := cell_box h.blk
 rcases hN with ⟨rfl, rfl⟩ | ⟨g, c, rfl, hg, hc⟩
 ·go_enter Tryz.func95, Tryz.ntmps95
  go_wp2
  refine wp_loop_rounds 1 ?_
  rw [rounds_succ]
  go_wp2
  go_ret
  exact ⟨rfl, bal (Below.refl _ _) _⟩
 ·have HC := hid hc
  have HS := hid (Sl2.fresh w o i)
  have HB : Hid (Below w.heap.size w (w.alloc (slO o i))) := hid (bal (Below.refl _ _) _)
  clear hc h
  generalize hL : l.length = L at *
  have HL := hid hL
  clear hL
  go_enter Tryz.func95, Tryz.ntmps95
  go_wp2
  obtain ⟨w1, hw1⟩ : ∃ x, x = w.alloc (slO o i) := ⟨_, rfl⟩
  rw [show w.alloc (.cells #[.int .i64 o, .int .i64 i] 30) = w1 from hw1.symm]
  have hS : Sl2 w1 w.heap.size o i := hw1 ▸ HS.out
  have hB : Below w.heap.size w w1 := hw1 ▸ HB.out
  obtain ⟨s0, s1, sl⟩ := hS
  have q0 := (hB.cell (p := ⟨rb, 0, none⟩) hrl).trans r0
  have HB1 := hid hB
  clear hw1 hB HS HB r0 rz
  go_loopw [5] (fun t wr => ∃ (k z : Nat), k ≤ L ∧ t = .int .i64 k ∧ wr = w1.drewN z ∧ Hid (∀ (j : Nat) (x : Nod), j < k → l[j]? = some x → ¬ (x.o = o ∧ x.i = i))) (fun t _ => L - (intOf t).toNat)
  case atStart => exact ⟨0, 0, by omega, rfl, rfl, hid (fun j x h => by omega)⟩
  case round =>
   obtain ⟨k, z, hk, rfl, rfl, HN⟩ := hrel
   by_cases hlt : k < L
   ·have hLL := HL.out
    obtain ⟨x, hx⟩ : ∃ x, l[k]? = some x := ⟨l[k]'(by omega), List.getElem?_eq_getElem _⟩
    obtain ⟨y0, y1, y2⟩ := HC.out k x hx
    have x0 := (HB1.out.cell (p := ⟨g, _, none⟩) hg).trans y0
    have x1 := (HB1.out.cell (p := ⟨g, _, none⟩) hg).trans y1
    have hlt' : (k : Int) < L := by omega
    have hes := eqS x.o x.i o i
    have HX := hid hx
    clear hLL y0 y1 y2 hx
    by_cases he : x.o = o ∧ x.i = i
    ·have HSO := hid (atI_first HX.out he HN.out)
     simp only [he, and_self, decide_true] at hes
     rw [he.1] at x0
     rw [he.2] at x1
     clear he
     go_wp2
     go_quiet (fail)
     go_wp2
     go_ret
     rw [HSO.out]
     exact ⟨rfl, below_drewN (below_drewN HB1.out _) _⟩
    ·simp only [he, decide_false] at hes
     have HE := hid he
     clear he
     go_wp2
     go_quiet (fail)
     go_wp2
     go_roundw
     case rel => exact ⟨k + 1, z + nq, by omega, by go_num, by first | rfl | simp, hid (fun j y h1 h2 => by
      rcases Nat.lt_or_ge j k with h3 | h3
      ·exact HN.out j y h3 h2
      ·have : j = k := by omega
       rw [this, HX.out] at h2
       cases h2
       exact HE.out)⟩
     case measure => first | (simp [intOf]; done) | (simp [intOf]; omega)
   ·obtain rfl : k = L := by omega
    have HNO := hid (atI_none (l := l) (o := o) (i := i) (fun j x hj => HN.out j x (by have := (lgs hj).1; have := HL.out; omega) hj))
    go_wp2
    go_ret
    rw [HNO.out]
    exact ⟨rfl, below_drewN HB1.out _⟩
theorem RefT.getg {W : World} {rb : Nat} {v : Value} {l : List Nod} (h : RefT W rb v l) (h0 : 0 < l.length) : ∃ g c, v = .slice (some ⟨g, 0, none⟩) l.length c ∧ g < W.heap.size ∧ g ≠ rb ∧ ∀ (k : Nat) (x : Nod), l[k]? = some x → W.cell? ⟨g, k * 3, none⟩ = some (.int .i64 x.o) ∧ W.cell? ⟨g, k * 3 + 1, none⟩ = some (.int .i64 x.i) ∧ W.cell? ⟨g, k * 3 + 2, none⟩ = some (.int .i64 x.d) := by
 rcases nodes_row h.row with ⟨_, rfl⟩ | ⟨g, c, rfl, hg, hc⟩
 ·cases h0
 ·exact ⟨g, c, rfl, hg, fun e => h.ne (by rw [← e]; rfl), hc⟩
theorem rend_any (w : World) (rb : Nat) (v : Value) (l : List Nod) (k : Nat) (y : Nod) (h : RefT w rb v l) (hy : l[k]? = some y) :
  Calls Tryz.prog 96 #[.pointer (some ⟨rb, 0, none⟩), .int .i64 (k : Int)] w fun e w' => e = .returned (.int .i64 ((k + 1 + belowN l k : Nat) : Int)) ∧ Below w.heap.size w w' := by
 have hkl := (lgs hy).1
 have hle := h.le
 obtain ⟨g, c, rfl, hg, hgr, hc⟩ := h.getg (by omega)
 obtain ⟨r0, rz⟩ := cell_box h.blk
 have hble := belowN_le hkl
 have HC := hid hc
 have HY := hid hy
 obtain ⟨y0, y1, y2⟩ := hc k y hy
 have hkL : (k : Int) < l.length := by omega
 clear hc h rz y0 y1 hy
 generalize hL : l.length = L at *
 have HL := hid hL
 clear hL
 generalize hyd : y.d = yd at y2
 have HYD := hid hyd
 clear hyd
 go_enter Tryz.func96, Tryz.ntmps96
 go_wp2
 go_loopw [5] (fun t wr => ∃ (cc z : Nat), cc ≤ belowN l k ∧ t = .int .i64 ((k + 1 + cc : Nat) : Int) ∧ wr = w.drewN z) (fun t _ => L - (intOf t).toNat)
 case atStart => exact ⟨0, 0, by omega, by first | rfl | go_num, rfl⟩
 case round =>
  obtain ⟨cc, z, hcc, rfl, rfl⟩ := hrel
  obtain ⟨i, hi⟩ : ∃ i, k + 1 + cc = i := ⟨_, rfl⟩
  rw [hi]
  by_cases hiL : i < L
  ·have hLL := HL.out
   obtain ⟨x, hx⟩ : ∃ x, l[i]? = some x := ⟨l[i]'(by omega), List.getElem?_eq_getElem _⟩
   obtain ⟨x0, x1, x2⟩ := HC.out i x hx
   have hiL' : (i : Int) < L := by omega
   by_cases hlt : cc < belowN l k
   ·have hgt : yd < x.d := by
     obtain ⟨x', hx', hd⟩ := belowN_in HY.out hlt
     rw [hi, hx] at hx'
     cases hx'
     rw [← HYD.out]; exact hd
    have hcmp : decide (yd < x.d) = true := decide_eq_true hgt
    have HI := hid hi
    generalize x.d = xd at *
    clear hx x0 x1 hLL hi
    go_wp2
    go_quiet (fail)
    go_wp2
    go_roundw
    case rel => exact ⟨cc + 1, z + nq, by omega, by
     have := HI.out
     have e : ((k + 1 + (cc + 1) : Nat) : Int) = (i : Int) + 1 := by omega
     rw [e], by first | rfl | simp⟩
    case measure => first | (simp [intOf]; done) | (simp [intOf]; omega)
   ·have hce : cc = belowN l k := by omega
    have hle2 : x.d ≤ yd := by
     rw [← HYD.out]
     exact belowN_out HY.out (by rw [← hce, hi]; exact hx)
    have hcmp : decide (yd < x.d) = false := decide_eq_false (by omega)
    have HI := hid (show k + 1 + belowN l k = i by omega)
    generalize x.d = xd at *
    clear hx x0 x1 hLL hi
    go_wp2
    go_quiet (fail)
    go_wp2
    go_ret
    rw [HI.out]
    exact ⟨rfl, below_drewN (below_drewN (Below.refl _ _) _) _⟩
  ·have HI := hid (show k + 1 + belowN l k = i by omega)
   have hiL' : ¬ (i : Int) < L := by omega
   have hiL2 : decide ((i : Int) < L) = false := decide_eq_false hiL'
   have hiL3 : decide (i < L) = false := decide_eq_false hiL
   go_wp2
   go_quiet (fail)
   go_wp2
   go_ret
   rw [HI.out]
   exact ⟨rfl, below_drewN (below_drewN (Below.refl _ _) _) _⟩
end
end Go.Proofs.YtchjfeafkmpmbaaGreatDoor
