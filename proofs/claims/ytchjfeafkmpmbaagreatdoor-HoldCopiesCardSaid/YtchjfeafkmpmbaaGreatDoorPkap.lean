import Derived.Test.YtchjfeafkmpmbaaGreatDoorPkao
import Derived.Lib.SmallJoins
namespace Go.Proofs.YtchjfeafkmpmbaaGreatDoor
set_option linter.unusedVariables false
set_option linter.unusedSimpArgs false
set_option maxRecDepth 100000
set_option maxHeartbeats 8000000
open Lib (hid)
section
open Go.ChangeShapes Go.WideShapes Go.ChangeAt Go.RowKit Go.Shelf
attribute [local go_sem] Oper.semAt_some
def low (l : List Nod) (k c : Nat) : List Nod := l.mapIdx fun j x => if k < j ∧ j < k + 1 + c then { x with d := x.d - 1 } else x
theorem low_get {l : List Nod} {k c j : Nat} : (low l k c)[j]? = (l[j]?).map fun x => if k < j ∧ j < k + 1 + c then { x with d := x.d - 1 } else x := by
 unfold low
 rw [List.getElem?_mapIdx]
theorem low_len (l : List Nod) (k c : Nat) : (low l k c).length = l.length := by unfold low; simp
theorem low_zero (l : List Nod) (k : Nat) : low l k 0 = l := by
 apply List.ext_getElem?
 intro j
 rw [low_get]
 cases l[j]? with
 | none => rfl
 | some x =>
  show some (if k < j ∧ j < k + 1 + 0 then _ else _) = _
  rw [if_neg (by omega)]
theorem low_out {l : List Nod} {k c j : Nat} (h : ¬ (k < j ∧ j < k + 1 + c)) : (low l k c)[j]? = l[j]? := by
 rw [low_get]
 cases l[j]? with
 | none => rfl
 | some x =>
  show some (if k < j ∧ j < k + 1 + c then _ else _) = _
  rw [if_neg h]
theorem low_next {l : List Nod} {k c j : Nat} (h : j ≠ k + 1 + c) : (low l k (c + 1))[j]? = (low l k c)[j]? := by
 rw [low_get, low_get]
 congr 1
 funext x
 by_cases e : k < j ∧ j < k + 1 + c
 ·rw [if_pos e, if_pos (by omega)]
 ·rw [if_neg e, if_neg (by omega)]
theorem low_this {l : List Nod} {k c : Nat} {x : Nod} (h : l[k + 1 + c]? = some x) : (low l k (c + 1))[k + 1 + c]? = some { x with d := x.d - 1 } := by
 rw [low_get, h]
 show some (if k < k + 1 + c ∧ k + 1 + c < k + 1 + (c + 1) then _ else _) = _
 rw [if_pos (by omega)]
theorem low_slot {l : List Nod} {k c j : Nat} {y : Nod} (h : (low l k c)[j]? = some y) : ∃ x, l[j]? = some x ∧ y.o = x.o ∧ y.i = x.i := by
 rw [low_get] at h
 obtain ⟨x, hx, e⟩ := Option.map_eq_some_iff.1 h
 refine ⟨x, hx, ?_⟩
 rw [← e]
 split <;> exact ⟨rfl, rfl⟩
theorem low_tree {W : World} {B b m n : Nat} {ps : List Nat} {l : List Nod} {f : Int → Int → Option Nat} {k c q : Nat} {x : Nod} (h : TreeAt W B b m n ps (low l k c) f) (hq : ps[k + 1 + c]? = some q) (hx : l[k + 1 + c]? = some x) (hd : 1 ≤ x.d) :
  TreeAt (W.setCell ⟨q, 2, none⟩ (.int .i64 (x.d - 1))) B b m n ps (low l k (c + 1)) f := by
 have hlx : (low l k c)[k + 1 + c]? = some x := by rw [low_out (by omega)]; exact hx
 have hrq := h.row _ q x hq hlx
 have hbq := head_place h.head hrq
 have hmq := map_place hrq h.map
 have hl1 := low_len l k c
 have hl2 := low_len l k (c + 1)
 have hle := h.le
 have hlen := h.len
 have hat : ∀ {j : Nat} {y : Nod}, (low l k (c + 1))[j]? = some y → (j ≠ k + 1 + c ∧ (low l k c)[j]? = some y) ∨ (j = k + 1 + c ∧ y = { x with d := x.d - 1 }) := by
  intro j y hy
  by_cases e : j = k + 1 + c
  ·subst e
   rw [low_this hx] at hy
   exact .inr ⟨rfl, (Option.some.inj hy).symm⟩
  ·rw [low_next e] at hy
   exact .inl ⟨e, hy⟩
 have hs : ∀ {j : Nat} {y : Nod}, (low l k (c + 1))[j]? = some y → ∃ z, (low l k c)[j]? = some z ∧ y.o = z.o ∧ y.i = z.i := by
  intro j y hy
  rcases hat hy with ⟨_, h2⟩ | ⟨rfl, rfl⟩
  ·exact ⟨y, h2, rfl, rfl⟩
  ·exact ⟨x, hlx, rfl, rfl⟩
 refine ⟨by omega, by omega, (Go.heap_setCell_other _ _ _ _ hbq).trans h.head, ?_, h.inj, h.gb, h.gm, h.gp, ?_, ?_, h.map.of_block (Go.heap_setCell_other _ _ _ _ hmq), ?_⟩
 ·intro j r y hr hy
  rcases hat hy with ⟨e, h2⟩ | ⟨rfl, rfl⟩
  ·have hne : r ≠ q := fun e2 => e (h.inj _ _ _ hr (e2 ▸ hq))
   exact (Go.heap_setCell_other _ _ _ _ hne).trans (h.row j r y hr h2)
  ·rw [hq] at hr
   cases hr
   exact Go.heap_setCell_same _ _ _ _ _ _ hrq
 ·intro i j y z hi hj h1 h2
  obtain ⟨y', a1, a2, a3⟩ := hs hi
  obtain ⟨z', b1, b2, b3⟩ := hs hj
  exact h.slots _ _ _ _ a1 b1 (by rw [← a2, ← b2, h1]) (by rw [← a3, ← b3, h2])
 ·intro j y hy
  rcases hat hy with ⟨e, h2⟩ | ⟨rfl, rfl⟩
  ·exact h.ins _ _ h2
  ·obtain ⟨a, b, c', d⟩ := h.ins _ _ hlx
   exact ⟨a, b, by show 0 ≤ x.d - 1; omega, by show x.d - 1 ≤ _; omega⟩
 ·intro o i r ho hi
  rw [h.finds o i r ho hi]
  constructor
  ·rintro ⟨j, y, h1, h2, h3, h4⟩
   by_cases e : j = k + 1 + c
   ·subst e
    rw [hlx] at h2
    cases h2
    exact ⟨_, _, h1, low_this hx, h3, h4⟩
   ·exact ⟨j, y, h1, (low_next e).trans h2, h3, h4⟩
  ·rintro ⟨j, y, h1, h2, h3, h4⟩
   obtain ⟨z, a1, a2, a3⟩ := hs h2
   exact ⟨j, z, h1, a1, by rw [← a2]; exact h3, by rw [← a3]; exact h4⟩
def removeA (l : List Nod) (o i : Int) : List Nod × Int :=
 match idx l o i with
 | none => (l, 10)
 | some k => ((low l k (belowN l k)).eraseIdx k, 0)
structure RemI (w : World) (B b m n : Nat) (ps : List Nat) (l : List Nod) (f : Int → Int → Option Nat) (k p : Nat) (pre : List Nat) (W : World) : Prop where
 tree : TreeAt W B b m n ps (low l k pre.length) f
 box : W.cell? ⟨w.heap.size + 1, 0, none⟩ = some (.pointer (some ⟨p, 0, none⟩))
 lt : w.heap.size + 2 ≤ W.heap.size
 only : TOnly w W b m ps ps
theorem RemI.own {w : World} {B b m n : Nat} {ps : List Nat} {l : List Nod} {f : Int → Int → Option Nat} {k p : Nat} (H : TreeAt w B b m n ps l f) : OwnFrom (w.heap.size + 2) (RemI w B b m n ps l f k p) := by
 intro s A C row h hg hr
 have e : ∀ j, j < w.heap.size + 2 → C.heap[j]? = A.heap[j]? := fun j hj => hg.block j (Nat.lt_of_lt_of_le hj h.lt) (fun e => by have := (hr j e.symm).1; omega)
 refine ⟨h.tree.of_blocks (fun j hj => e j (by have := H.lt hj; omega)), ?_, Nat.le_trans h.lt hg.size, hg.os.trans h.only.os, hg.tape.trans h.only.tape, hg.output.trans h.only.output, Nat.le_trans h.only.size hg.size, fun j hj hf => (e j (by omega)).trans (h.only.block j hj hf), h.only.foot⟩
 rw [show C.cell? ⟨w.heap.size + 1, 0, none⟩ = A.cell? ⟨w.heap.size + 1, 0, none⟩ from by unfold World.cell?; simp only [e (w.heap.size + 1) (by omega)]]
 exact h.box
theorem RemI.rows {w W : World} {B b m n : Nat} {ps : List Nat} {l : List Nod} {f : Int → Int → Option Nat} {k p : Nat} {pre : List Nat} (h : RemI w B b m n ps l f k p pre W) : Rows W ps l k pre.length (w.heap.size + 1) p := by
 refine ⟨h.box, fun j q hq => ?_, fun j q y hq hy hj => ?_⟩
 ·obtain ⟨z, hz⟩ := get_len h.tree.len hq
  exact (place_cells (h.tree.row j q z hq hz)).2.2.2.2.1
 ·have hz : (low l k pre.length)[j]? = some y := by rw [low_out (by omega)]; exact hy
  exact (place_cells (h.tree.row j q y hq hz)).2.2.1
theorem RemI.step {w W : World} {B b m n : Nat} {ps : List Nat} {l : List Nod} {f : Int → Int → Option Nat} {k p : Nat} {pre pre' : List Nat} {q j : Nat} {v : Value} (h : RemI w B b m n ps l f k p pre W) (ht : TreeAt (W.setCell ⟨q, 2, none⟩ v) B b m n ps (low l k (pre.length + 1)) f) (hq : ps[j]? = some q) (hp : pre'.length = pre.length + 1) (hql : q < w.heap.size) : RemI w B b m n ps l f k p pre' (W.setCell ⟨q, 2, none⟩ v) := by
 refine ⟨by rw [hp]; exact ht, ?_, by have := h.lt; simp; omega, h.only.os, h.only.tape, h.only.output, by have := h.only.size; simp; omega, fun i hi hf => ?_, h.only.foot⟩
 ·rw [World.cell?_setCell_other _ _ _ _ (by intro e2; injection e2 with e2 _ _; omega)]
  exact h.box
 ·have hne : i ≠ q := fun e => hf (e ▸ foot_at hq)
  exact (Go.heap_setCell_other _ _ _ _ hne).trans (h.only.block i hi hf)
theorem remove_in (w : World) (B b m n : Nat) (ps : List Nat) (l : List Nod) (f : Int → Int → Option Nat) (o i : Int) (k p : Nat) (x : Nod) (ho : InS o) (hi : InS i) (h : TreeAt w B b m n ps l f) (hn : n < 1000000) (hk : ps[k]? = some p) (hx : l[k]? = some x) (hxs : x.o = o ∧ x.i = i) :
  CallsIn Fence.wide 3 Tryz.prog 72 #[.pointer (some ⟨b, 0, none⟩), slV o i] w fun e w' => e = .returned (.int .i64 0) ∧ Left w w' B b m (n + 1) ps ((low l k (belowN l k)).eraseIdx k) := by
 have hf : f o i = some p := (h.finds o i p ho hi).2 ⟨k, x, hk, hx, hxs⟩
 have hal : Below w.heap.size w (w.alloc (slO o i)) := bal (Below.refl _ _) _
 have hl := h.look_ok (W := (w.alloc (slO o i)).drew) (hal.drew.block m (h.lt (.inr (.inl rfl)))) ho hi
 rw [hf] at hl
 simp only [ptrV, Option.isSome] at hl
 obtain ⟨c0, c1, c2, cz⟩ := head_cells h.head
 have hbl : b < w.heap.size := h.lt (.inl rfl)
 have H := hid h
 have HK := hid hk
 have HX := hid hx
 clear h hk hx hal
 refine callsIn_of_wp_marks Tryz.func72 rfl trivial ?_ rfl
 simp only [Tryz.ntmps72, List.size_toArray, List.length_cons, List.length_nil, Nat.reduceAdd, Nat.reduceSub, Array.replicate_succ, Array.replicate_zero, List.push_toArray, List.append_toArray, List.nil_append, List.cons_append]
 gi_wp2
 gi_region
 gi_wp2_with (refine ⟨trivial, ?_⟩; gi_at_call 104; refine (below_in _ _ _).mono ?_; rintro e w' ⟨rfl, rfl⟩)
 obtain ⟨w1, hw1⟩ : ∃ x, x = ((w.alloc (slO o i)).alloc (.cells #[.pointer (some ⟨p, 0, none⟩)] 119)).drew := ⟨_, rfl⟩
 rw [← hw1]
 have hsz : w1.heap.size = w.heap.size + 2 := by rw [hw1]; simp
 have hb1 : Below w.heap.size w w1 := hw1 ▸ (bal (bal (Below.refl _ _) _) _).drew
 have inv : RemI w B b m n ps l f k p [] w1 := by
  refine ⟨?_, ?_, by omega, .of_below hb1⟩
  ·show TreeAt w1 B b m n ps (low l k 0) f
   rw [low_zero]
   exact H.out.call hb1
  ·rw [hw1]; go_simp
 clear hw1 hl c0 c1 c2 cz hf
 refine wpIn_range_linkedP (α := Nat) rfl (by decide) (gf := 121) (lb := #[.pointer (some ⟨w.heap.size + 1, 0, none⟩)]) rfl trivial (enters_of Tryz.func121 (by kernel_rfl) rfl)
  (encs := fun x => #[ptrV ps[x]?]) (V := fun pre x => x = k + 1 + pre.length ∧ pre.length < belowN l k) (S := fun xs => xs = List.range' (k + 1) (belowN l k)) (N := belowN l k) (RemI w B b m n ps l f k p) ?hseq (fun _ => rfl) (hsz ▸ RemI.own H.out) inv
  (fun x => { tmps := #[.pointer (some ⟨b, 0, none⟩), slV o i, undef, .pointer (some ⟨w.heap.size, 0, none⟩), .int .i64 0, .pointer (some ⟨p, 0, none⟩), .bool true, ptrV ps[x]?, .pointer (some ⟨b, 0, none⟩), .bool false, .tuple #[.pointer (some ⟨p, 0, none⟩), .bool true], .pointer (some ⟨b, 0, none⟩), .pointer (some ⟨b, 0, none⟩), .pointer (some ⟨b, 2, none⟩), .map (some m), .agg #[.int .i64 o, .int .i64 i], .tuple #[.pointer (some ⟨p, 0, none⟩), .bool true], .pointer (some ⟨p, 0, none⟩), .bool true, .bool true, .bool false, .pointer (some ⟨p, 0, none⟩), .func (.func 121) #[] #[.pointer (some ⟨w.heap.size + 1, 0, none⟩)], ptrV ps[x]?, undef, undef, undef, undef, undef, undef, undef, undef, undef, undef], defers := [] }) ?hassign ?hbody ?hdone
 case hseq =>
  intro l' J W hB hAb hJI hY h0
  exact below1_linked _ l' (w.heap.size + 1) W ps l k p x H.out.len H.out.inj HK.out HX.out J hY h0
   (fun pre W1 j hj => by
    have hbd := below_drewN (Below.refl 0 W1) j
    have hg : W1.grownBy (W1.drewN j) none := ⟨hbd.os, hbd.tape, hbd.output, by rw [World.heap_drewN]; exact Nat.le_refl _, fun q _ _ => by rw [World.heap_drewN]⟩
    exact hAb pre W1 _ none hj hg (fun r e => by cases e)) (fun pre W1 hj => (hJI pre W1 hj).rows)
 case hassign =>
  intro l' x' W K hK
  gi_wp2
  exact hK
 case hbody =>
  rintro l' pre x' W ⟨rfl, hlt⟩ hI hlen
  obtain ⟨y, hy, hyd⟩ := belowN_in HX.out hlt
  obtain ⟨q, hq⟩ := get_len H.out.len.symm hy
  have hly : (low l k pre.length)[k + 1 + pre.length]? = some y := by rw [low_out (by omega)]; exact hy
  have hrq := hI.tree.row _ q y hq hly
  obtain ⟨q0, q1, q2, q3, q4, qz⟩ := place_cells hrq
  have hxd := (H.out.ins k x HX.out).2.2
  have hyb := (H.out.ins _ y hy).2.2
  have hd1 : 1 ≤ y.d := by omega
  have hd2 : y.d ≤ 1000000 := by omega
  have HR := hid (low_tree hI.tree hq hy hd1)
  generalize hyy : y.d = d at *
  have HI := hid hI
  rw [hq, ptrV_some]
  clear hI hrq q0 q1 q3 q4 hly hy hyd hxd hyb
  gi_wp2
  refine ⟨KeepsOthers.setCell _ _ _, HI.out.step HR.out hq (by simp) (H.out.lt (foot_at hq))⟩
 case hdone =>
  rintro D xs W hD rfl hI hK
  have hxl : (low l k (belowN l k))[k]? = some x := by rw [low_out (by omega)]; exact HX.out
  have hT := hI.tree
  rw [List.length_range'] at hT
  have HT := hid hT
  have HXL := hid hxl
  have HI := hid hI
  clear hT hxl hI
  gi_wp2_with (refine ⟨trivial, ?_⟩; gi_at_call 106; refine (callsIn_wide.2 (unlink_any _ B b m n ps _ f p k x HT.out HK.out HXL.out)).mono ?_; rintro e w2 ⟨⟨v, rfl⟩, hT2, hO2⟩)
  have hD' : w.heap.size + 2 ≤ D := by omega
  have hnf : ¬ foot b m ps D := fun e => by have := H.out.lt e; omega
  have hDW : D < W.heap.size := (ags hK).1
  have hK2 : w2.heap[D]? = some (.deferred (some [])) := (hO2.block D hDW hnf).trans hK
  refine ⟨by simp, .inl ⟨_, _, rfl, run_takeDeferred hK2, ?_⟩⟩
  have hO := HI.out.only.trans hO2
  have hput : ∀ j, j ≠ D → (w2.putObj D (.deferred none)).heap[j]? = w2.heap[j]? := fun j hj => World.putObj_heap_other hj
  refine ⟨_, results_tmp rfl _ _ _, rfl, _, _, (hT2.of_blocks (fun j hj => hput j (fun e => hnf (hO2.foot j (by omega) (e ▸ hj) |> fun q => e ▸ q)))).mono (Nat.le_succ _), ?_⟩
  exact ⟨hO.os, hO.tape, hO.output, by have := hO.size; simp [World.putObj]; omega, fun j hj hf => (hput j (by omega)).trans (hO.block j hj hf), hO.foot⟩
end
section
open Go.ChangeShapes Go.WideShapes Go.ChangeAt Go.RowKit Go.Shelf
theorem remove_any (w : World) (B b m n : Nat) (ps : List Nat) (l : List Nod) (f : Int → Int → Option Nat) (o i : Int) (ho : InS o) (hi : InS i) (h : TreeAt w B b m n ps l f) (hn : n < 1000000) :
  Calls Tryz.prog 72 #[.pointer (some ⟨b, 0, none⟩), slV o i] w fun e w' => e = .returned (.int .i64 (removeA l o i).2) ∧ Left w w' B b m (n + 1) ps (removeA l o i).1 := by
 unfold removeA
 cases hk : idx l o i with
 | some k =>
  obtain ⟨x, hx, hxs⟩ := idx_some hk
  obtain ⟨p, hp⟩ := get_len h.len.symm hx
  exact callsIn_wide.1 (remove_in w B b m n ps l f o i k p x ho hi h hn hp hx hxs)
 | none =>
  have hf := h.find ho hi
  rw [hk] at hf
  change f o i = none at hf
  have hal : Below w.heap.size w (w.alloc (slO o i)) := bal (Below.refl _ _) _
  have HA := hid hal
  have hl := h.look_ok (W := (w.alloc (slO o i)).drew) (hal.drew.block m (h.lt (.inr (.inl rfl)))) ho hi
  rw [hf] at hl
  simp only [ptrV, Option.isSome] at hl
  obtain ⟨c0, c1, c2, cz⟩ := head_cells h.head
  have hbl : b < w.heap.size := h.lt (.inl rfl)
  have H := hid h
  clear h hal hf hk
  go_enter Tryz.func72, Tryz.ntmps72
  go_upto_region 3 with fail
  go_region
  all_goals
   go_wp2
   go_ret
   exact ⟨rfl, Left.same H.out HA.out.drew (Nat.le_succ _)⟩
abbrev ndV (x : Nod) : Value := .agg #[.int .i64 x.o, .int .i64 x.i, .int .i64 x.d]
theorem neN (x y : Nod) (w : World) : (binOp .neq 44 (ndV x) (ndV y)).run Tryz.prog w = .ok (.bool (!decide (x = y))) w := by
 obtain ⟨s, p, f⟩ := x
 obtain ⟨s', p', f'⟩ := y
 go_simp
 repeat (split <;> simp_all)
def NodesAt (W : World) (v : Value) (l : List Nod) : Prop :=
 (v = .slice none 0 0 ∧ l = []) ∨ ∃ g c, v = .slice (some ⟨g, 0, none⟩) l.length c ∧ g < W.heap.size ∧ ∀ (k : Nat) (x : Nod), l[k]? = some x → W.cell? ⟨g, k * 3, none⟩ = some (.int .i64 x.o) ∧ W.cell? ⟨g, k * 3 + 1, none⟩ = some (.int .i64 x.i) ∧ W.cell? ⟨g, k * 3 + 2, none⟩ = some (.int .i64 x.d)
theorem nodsC_get : ∀ (l : List Nod) (k : Nat) (x : Nod), l[k]? = some x → (nodsC l)[k * 3]? = some (.int .i64 x.o) ∧ (nodsC l)[k * 3 + 1]? = some (.int .i64 x.i) ∧ (nodsC l)[k * 3 + 2]? = some (.int .i64 x.d)
 | [], k, x, h => by simp at h
 | y :: l, 0, x, h => by simp at h; subst h; exact ⟨rfl, rfl, rfl⟩
 | y :: l, k + 1, x, h => by
  obtain ⟨a1, a2, a3⟩ := nodsC_get l k x (by simpa using h)
  have e : nodsC (y :: l) = .int .i64 y.o :: .int .i64 y.i :: .int .i64 y.d :: nodsC l := rfl
  rw [e, show (k + 1) * 3 = k * 3 + 1 + 1 + 1 by omega, show k * 3 + 1 + 1 + 1 + 1 = k * 3 + 1 + 1 + 1 + 1 from rfl]
  exact ⟨a1, a2, a3⟩
theorem nodes_row {W : World} {B : Nat} {e : TypeId} {v : Value} {l : List Nod} (h : W.ownsRow B e 3 v l.length (nodsC l)) : NodesAt W v l := by
 have hlt := h.lt
 have hcs := fun g hg => h.cells (g := g) hg
 obtain ⟨hl, ⟨rfl, h⟩ | ⟨g, cap, cur, rfl, hg, hblk, h1, h2, h3, h4⟩⟩ := h
 ·exact .inl ⟨rfl, List.length_eq_zero_iff.1 h⟩
 ·refine .inr ⟨g, cap, rfl, (hlt g rfl).2, fun k x hx => ?_⟩
  have e : ∀ j, ((⟨g, 0, none⟩ : Addr).add j) = ⟨g, j, none⟩ := fun j => by unfold Addr.add; split <;> simp_all
  obtain ⟨a1, a2, a3⟩ := nodsC_get l k x hx
  have b1 := hcs g rfl _ _ a1
  have b2 := hcs g rfl _ _ a2
  have b3 := hcs g rfl _ _ a3
  rw [e] at b1 b2 b3
  exact ⟨b1, b2, b3⟩
theorem NodesAt.form {W : World} {v : Value} {l : List Nod} (h : NodesAt W v l) : ∃ a c, v = .slice a l.length c := by
 rcases h with ⟨rfl, rfl⟩ | ⟨g, c, rfl, _⟩
 ·exact ⟨none, 0, rfl⟩
 ·exact ⟨_, c, rfl⟩
theorem same_nodes (w : World) (u v : Value) (l r : List Nod) (hu : NodesAt w u l) (hv : NodesAt w v r) (hn : l.length < 1000000) (hr : r.length < 1000000) :
  Calls Tryz.prog 19 #[u, v] w fun e w' => e = .returned (.bool (decide (l = r))) ∧ ∃ j, w' = w.drewN j := by
 by_cases hl : l.length = r.length
 ·rcases hu with ⟨rfl, rfl⟩ | ⟨g, c, rfl, hg, hcg⟩
  ·have hr0 : r = [] := List.length_eq_zero_iff.1 hl.symm
   subst hr0
   obtain ⟨a, c, rfl⟩ := hv.form
   go_enter Tryz.func19, Tryz.ntmps19
   go_wp2
   refine wp_loop_rounds 1 ?_
   rw [rounds_succ]
   go_wp2
   go_ret
   exact ⟨rfl, 0, rfl⟩
  ·rcases hv with ⟨rfl, rfl⟩ | ⟨q, d, rfl, hq, hcq⟩
   ·have hr0 : l = [] := List.length_eq_zero_iff.1 hl
    subst hr0
    go_enter Tryz.func19, Tryz.ntmps19
    go_wp2
    refine wp_loop_rounds 1 ?_
    rw [rounds_succ]
    go_wp2
    go_ret
    exact ⟨rfl, 0, rfl⟩
   ·have HG := hid hcg
    have HQ := hid hcq
    clear hcg hcq
    rw [← hl]
    generalize hN : l.length = N at *
    go_enter Tryz.func19, Tryz.ntmps19
    go_wp2
    go_loopw [5] (fun i wr => ∃ k : Nat, k ≤ N ∧ i = .int .i64 k ∧ (∃ j, wr = w.drewN j) ∧ Hid (l.take k = r.take k)) (fun i _ => N - (intOf i).toNat)
    case atStart => exact ⟨0, by omega, rfl, ⟨0, rfl⟩, hid (by simp)⟩
    case round =>
     obtain ⟨k, hk, rfl, ⟨j, rfl⟩, HE⟩ := hrel
     by_cases hlt : k < N
     ·obtain ⟨x, hx⟩ : ∃ x, l[k]? = some x := ⟨l[k]'(by omega), List.getElem?_eq_getElem _⟩
      obtain ⟨y, hy⟩ : ∃ y, r[k]? = some y := ⟨r[k]'(by omega), List.getElem?_eq_getElem _⟩
      obtain ⟨x0, x1, x2⟩ := HG.out k x hx
      obtain ⟨y0, y1, y2⟩ := HQ.out k y hy
      have hne := neN x y
      have hlt' : (k : Int) < N := by omega
      have HX := hid hx
      have HY := hid hy
      clear hx hy
      by_cases hxy : x = y
      ·simp only [hxy, decide_true, Bool.not_true] at hne
       subst hxy
       go_wp2
       go_quiet (fail)
       go_wp2
       go_roundw
       case rel => exact ⟨k + 1, by omega, by go_num, ⟨_, rfl⟩, hid (by rw [List.take_add_one, List.take_add_one, HX.out, HY.out, HE.out])⟩
       case measure => simp [intOf]; omega
      ·simp only [hxy, decide_false, Bool.not_false] at hne
       have hlr : l ≠ r := fun e => hxy (by have := HX.out; rw [e, HY.out] at this; exact (Option.some.inj this).symm)
       go_wp2
       go_quiet (fail)
       go_wp2
       go_ret
       rw [decide_eq_false hlr]
       exact ⟨rfl, _, World.drewN_drewN _ _ _⟩
     ·have hkN : k = N := by omega
      have hlr : l = r := by
       have := HE.out
       rw [List.take_of_length_le (by omega), List.take_of_length_le (by omega)] at this
       exact this
      subst hkN
      go_wp2
      go_ret
      rw [decide_eq_true hlr]
      exact ⟨rfl, _, rfl⟩
 ·have hne : l ≠ r := fun e => hl (by rw [e])
  obtain ⟨a, c, rfl⟩ := hu.form
  obtain ⟨a', c', rfl⟩ := hv.form
  have hl' : ¬ (l.length : Int) = r.length := by omega
  simp only [hne, decide_false]
  clear hu hv
  generalize l.length = N at *
  generalize r.length = M at *
  go_enter Tryz.func19, Tryz.ntmps19
  go_wp2
  go_ret
  exact ⟨rfl, 0, rfl⟩
def St (w0 : World) (b m n : Nat) (l : List Nod) (W : World) : Prop := ∃ ps f, TreeAt W w0.heap.size b m n ps l f ∧ Below w0.heap.size w0 W
theorem new_st (w : World) : Calls Tryz.prog 74 #[] w fun e w' => e = .returned (.pointer (some ⟨w.heap.size + 1, 0, none⟩)) ∧ St w (w.heap.size + 1) w.heap.size 0 [] w' :=
 (new_any w).mono fun e w' ⟨he, hT, hb⟩ => ⟨he, [], _, hT, hb⟩
theorem St.below {w0 W : World} {b m n : Nat} {l : List Nod} (h : St w0 b m n l W) : Below w0.heap.size w0 W := by
 obtain ⟨ps, f, hT, hB⟩ := h
 exact hB
end
section
open Go.ChangeShapes Go.WideShapes Go.ChangeAt Go.RowKit Go.MapKept Go.ChangeMaps
def fset (f : Int → Int → Option Nat) (o i : Int) (p : Option Nat) : Int → Int → Option Nat := fun a b => if a = o ∧ b = i then p else f a b
structure PutPost (w w' : World) (m n : Nat) (f : Int → Int → Option Nat) (pp : Option Nat) (x : Nod) (u v : Option Nat) (o i : Int) : Prop where
 map : MapS w' m (n + 1) (fset f o i pp)
 at_ : ∀ p, pp = some p → w'.heap[p]? = some (placeO ⟨o, i, x.d⟩ u v)
 os : w'.os = w.os
 tape : w'.tape = w.tape
 output : w'.output = w.output
 size : w.heap.size ≤ w'.heap.size
 block : ∀ k, k < w.heap.size → k ≠ m → pp ≠ some k → w'.heap[k]? = w.heap[k]?
theorem put_any (w : World) (b m n : Nat) (f : Int → Int → Option Nat) (pp : Option Nat) (x : Nod) (u v h0 h1 : Option Nat) (o i : Int) (ho : InS o) (hi : InS i) (hh : w.heap[b]? = some (treeO h0 h1 m)) (hm : MapS w m n f) (hn : n < maxLen)
  (hp : ∀ p, pp = some p → w.heap[p]? = some (placeO x u v)) :
  Calls Tryz.prog 113 #[.pointer (some ⟨b, 0, none⟩), ptrV pp, slV o i] w fun e w' => (∃ v, e = .returned v) ∧ PutPost w w' m n f pp x u v o i := by
 have hmb := map_head hh hm
 have hbl : b < w.heap.size := (ags hh).1
 obtain ⟨c0, c1, c2, cz⟩ := head_cells hh
 have hml := hm.lt
 cases pp with
 | none =>
  have hmW : MapS (w.alloc (slO o i)).drew m n f := hm.of_block (Below.heap_alloc _ _ _ hml)
  obtain ⟨W', hr, hm', ht⟩ := hmW.del ho hi 0
  have HP : Hid (PutPost w W' m n f none x u v o i) := by
   refine hid ?_
   obtain ⟨es, c, es', c', hb, rfl⟩ := ht
   refine ⟨hm'.mono (Nat.le_succ _), fun p e => (by cases e), rfl, rfl, rfl, ?_, fun k hk hkm _ => ?_⟩
   ·simp [setBlock]
   ·exact (heap_setBlock_other hb _ hkm).trans (Below.heap_alloc _ _ _ hk)
  clear hm' ht hmW
  rw [ptrV_none]
  go_enter Tryz.func113, Tryz.ntmps113
  go_upto_region 2 with fail
  go_region
  all_goals
   go_wp2
   (try rw [Exit.noGoto_ret])
   refine bodyPost_ret (results_none rfl _ _ _) rfl ⟨⟨_, rfl⟩, HP.out⟩
 | some p =>
  have hpo := hp p rfl
  have hbp := head_place hh hpo
  have hmp := map_place hpo hm
  have hpl : p < w.heap.size := (ags hpo).1
  obtain ⟨p0, p1, p2, p3, p4, pz⟩ := place_cells hpo
  have hpb : p ≠ b := hbp.symm
  obtain ⟨W, hW⟩ : ∃ W, W = (((w.setCell ⟨p, 0, none⟩ (.int .i64 o)).setCell ⟨p, 1, none⟩ (.int .i64 i)).alloc (slO o i)) := ⟨_, rfl⟩
  have hoth : ∀ k, k < w.heap.size → k ≠ p → W.heap[k]? = w.heap[k]? := fun k hk hkp => by
   rw [hW, Below.heap_alloc _ _ _ (by simpa using hk), Go.heap_setCell_other _ _ _ _ hkp, Go.heap_setCell_other _ _ _ _ hkp]
  have hpW : W.heap[p]? = some (placeO ⟨o, i, x.d⟩ u v) := by
   rw [hW, Below.heap_alloc _ _ _ (by simpa using hpl)]
   exact Go.heap_setCell_same _ _ _ _ _ _ (Go.heap_setCell_same _ _ _ _ _ _ hpo)
  have hmW : MapS W.drew m n f := hm.of_block (hoth m hml hmp)
  obtain ⟨W', hr, hm', ht⟩ := hmW.put hn ho hi p
  rw [ptrV_some] at hr
  have HP : Hid (PutPost w W' m n f (some p) x u v o i) := by
   refine hid ?_
   obtain ⟨es, c, es', c', hb, rfl⟩ := ht
   refine ⟨hm', fun q e => ?_, ?_, ?_, ?_, ?_, fun k hk hkm hkp => ?_⟩
   ·cases e
    exact (heap_setBlock_other hb _ (fun e => hmp e.symm)).trans hpW
   ·rw [hW]; simp [setBlock, World.drew, World.setCell, World.alloc]
   ·rw [hW]; simp [setBlock, World.drew, World.setCell, World.alloc]
   ·rw [hW]; simp [setBlock, World.drew, World.setCell, World.alloc]
   ·rw [hW]; simp [setBlock]
   ·exact (heap_setBlock_other hb _ hkm).trans (hoth k hk (fun e => hkp (by rw [e])))
  have hh2 : W.cell? ⟨b, 2, none⟩ = some (.map (some m)) := (head_cells ((hoth b hbl hbp).trans hh)).2.2.1
  clear hm' ht hmW hpW hoth
  rw [ptrV_some]
  go_enter Tryz.func113, Tryz.ntmps113
  go_upto_region 4 with fail
  subst hW
  go_region
  all_goals
   go_wp2
   go_end0
   exact ⟨⟨_, rfl⟩, HP.out⟩
def sw (o i p j : Int) (x : Nod) : Nod := if x.o = o ∧ x.i = i then ⟨p, j, x.d⟩ else if x.o = p ∧ x.i = j then ⟨o, i, x.d⟩ else x
def swapA (l : List Nod) (o i p j : Int) : List Nod := l.map (sw o i p j)
theorem sw_slot (o i p j : Int) (x : Nod) (a c : Int) : ((sw o i p j x).o = a ∧ (sw o i p j x).i = c) ↔ (x.o = (sw o i p j ⟨a, c, 0⟩).o ∧ x.i = (sw o i p j ⟨a, c, 0⟩).i) := by
 obtain ⟨xo, xi, xd⟩ := x
 unfold sw
 simp only
 repeat' split
 all_goals (try simp only)
 all_goals omega
theorem fset_sw (f : Int → Int → Option Nat) (o i p j a c : Int) : fset (fset f p j (f o i)) o i (f p j) a c = f (sw o i p j ⟨a, c, 0⟩).o (sw o i p j ⟨a, c, 0⟩).i := by
 unfold fset sw
 simp only
 split
 ·rfl
 ·split
  ·rfl
  ·rfl
theorem sw_in {o i p j : Int} (ho : InS o) (hi : InS i) (hp : InS p) (hj : InS j) {x : Nod} (h1 : InS x.o) (h2 : InS x.i) : InS (sw o i p j x).o ∧ InS (sw o i p j x).i ∧ (sw o i p j x).d = x.d := by
 unfold sw
 split
 ·exact ⟨hp, hj, rfl⟩
 ·split
  ·exact ⟨ho, hi, rfl⟩
  ·exact ⟨h1, h2, rfl⟩
theorem swap_tree {w W : World} {B b m n : Nat} {ps : List Nat} {l : List Nod} {f : Int → Int → Option Nat} {o i p j : Int} (ho : InS o) (hi : InS i) (hp : InS p) (hj : InS j) (h : TreeAt w B b m n ps l f)
  (hb : W.heap[b]? = w.heap[b]?) (hr : ∀ (k r : Nat) (x : Nod), ps[k]? = some r → l[k]? = some x → W.heap[r]? = some (placeO (sw o i p j x) (prv ps k) ps[k + 1]?))
  (hm : MapS W m (n + 1 + 1) (fset (fset f p j (f o i)) o i (f p j))) : TreeAt W B b m (n + 1 + 1) ps (swapA l o i p j) (fset (fset f p j (f o i)) o i (f p j)) := by
 have hget : ∀ {k : Nat} {y : Nod}, (swapA l o i p j)[k]? = some y → ∃ x, l[k]? = some x ∧ y = sw o i p j x := by
  intro k y hy
  unfold swapA at hy
  rw [List.getElem?_map] at hy
  obtain ⟨x, hx, e⟩ := Option.map_eq_some_iff.1 hy
  exact ⟨x, hx, e.symm⟩
 have hll : (swapA l o i p j).length = l.length := by unfold swapA; simp
 have hle := h.le
 refine ⟨by rw [hll]; exact h.len, by omega, hb.trans h.head, ?_, h.inj, h.gb, h.gm, h.gp, ?_, ?_, hm, ?_⟩
 ·intro k r y hk hy
  obtain ⟨x, hx, rfl⟩ := hget hy
  exact hr k r x hk hx
 ·intro k q y z hk hq h1 h2
  obtain ⟨x, hx, rfl⟩ := hget hk
  obtain ⟨x', hx', rfl⟩ := hget hq
  have e1 := (sw_slot o i p j x _ _).1 ⟨rfl, rfl⟩
  have e2 := (sw_slot o i p j x' _ _).1 ⟨rfl, rfl⟩
  rw [← h1, ← h2] at e2
  exact h.slots _ _ _ _ hx hx' (e1.1.trans e2.1.symm) (e1.2.trans e2.2.symm)
 ·intro k y hk
  obtain ⟨x, hx, rfl⟩ := hget hk
  obtain ⟨a, c, d, e⟩ := h.ins k x hx
  obtain ⟨a', c', d'⟩ := sw_in ho hi hp hj a c
  exact ⟨a', c', by rw [d']; exact d, by rw [d']; omega⟩
 ·intro a c r ha hc
  obtain ⟨a', c', _⟩ := sw_in (x := ⟨a, c, 0⟩) ho hi hp hj ha hc
  rw [fset_sw, h.finds _ _ r a' c']
  constructor
  ·rintro ⟨k, x, h1, h2, h3⟩
   exact ⟨k, sw o i p j x, h1, by unfold swapA; rw [List.getElem?_map, h2]; rfl, (sw_slot o i p j x a c).2 h3⟩
  ·rintro ⟨k, y, h1, h2, h3⟩
   obtain ⟨x, hx, rfl⟩ := hget h2
   exact ⟨k, x, h1, hx, (sw_slot o i p j x a c).1 h3⟩
end
end Go.Proofs.YtchjfeafkmpmbaaGreatDoor
