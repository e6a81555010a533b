/- package tree: Remove. -/
import Derived.Test.YtebgmphbkjpfcaaTrE
namespace Go.Proofs.Ytebgmphbkjpfcaa
set_option linter.unusedVariables false
set_option linter.unusedSimpArgs false
open Go.ChangeShapes Go.WideShapes Go.ChangeAt Go.RowKit Go.Shelf
attribute [local go_sem] Oper.semAt_some

/-- The first c places below the k-th rise by one. -/
def low (l : List Nod) (k c : Nat) : List Nod := l.mapIdx fun j x => if k < j ∧ j < k + 1 + c then { x with d := x.d - 1 } else x
theorem low_get {l : List Nod} {k c j : Nat} : (low l k c)[j]? = (l[j]?).map fun x => if k < j ∧ j < k + 1 + c then { x with d := x.d - 1 } else x := by
  unfold low
  rw [List.getElem?_mapIdx]
theorem low_len (l : List Nod) (k c : Nat) : (low l k c).length = l.length := by unfold low; simp
theorem low_zero (l : List Nod) (k : Nat) : low l k 0 = l := by
  apply List.ext_getElem?
  intro j
  rw [low_get]
  cases l[j]? with
  | none => rfl
  | some x =>
    show some (if k < j ∧ j < k + 1 + 0 then _ else _) = _
    rw [if_neg (by omega)]
theorem low_out {l : List Nod} {k c j : Nat} (h : ¬ (k < j ∧ j < k + 1 + c)) : (low l k c)[j]? = l[j]? := by
  rw [low_get]
  cases l[j]? with
  | none => rfl
  | some x =>
    show some (if k < j ∧ j < k + 1 + c then _ else _) = _
    rw [if_neg h]
theorem low_next {l : List Nod} {k c j : Nat} (h : j ≠ k + 1 + c) : (low l k (c + 1))[j]? = (low l k c)[j]? := by
  rw [low_get, low_get]
  congr 1
  funext x
  by_cases e : k < j ∧ j < k + 1 + c
  · rw [if_pos e, if_pos (by omega)]
  · rw [if_neg e, if_neg (by omega)]
theorem low_this {l : List Nod} {k c : Nat} {x : Nod} (h : l[k + 1 + c]? = some x) : (low l k (c + 1))[k + 1 + c]? = some { x with d := x.d - 1 } := by
  rw [low_get, h]
  show some (if k < k + 1 + c ∧ k + 1 + c < k + 1 + (c + 1) then _ else _) = _
  rw [if_pos (by omega)]
theorem low_slot {l : List Nod} {k c j : Nat} {y : Nod} (h : (low l k c)[j]? = some y) : ∃ x, l[j]? = some x ∧ y.o = x.o ∧ y.i = x.i := by
  rw [low_get] at h
  obtain ⟨x, hx, e⟩ := Option.map_eq_some_iff.1 h
  refine ⟨x, hx, ?_⟩
  rw [← e]
  split <;> exact ⟨rfl, rfl⟩
theorem low_tree {W : World} {B b m n : Nat} {ps : List Nat} {l : List Nod} {f : Int → Int → Option Nat} {k c q : Nat} {x : Nod} (h : TreeAt W B b m n ps (low l k c) f) (hq : ps[k + 1 + c]? = some q) (hx : l[k + 1 + c]? = some x) (hd : 1 ≤ x.d) :
    TreeAt (W.setCell ⟨q, 2, none⟩ (.int .i64 (x.d - 1))) B b m n ps (low l k (c + 1)) f := by
  have hlx : (low l k c)[k + 1 + c]? = some x := by rw [low_out (by omega)]; exact hx
  have hrq := h.row _ q x hq hlx
  have hbq := head_place h.head hrq
  have hmq := map_place hrq h.map
  have hl1 := low_len l k c
  have hl2 := low_len l k (c + 1)
  have hle := h.le
  have hlen := h.len
  have hat : ∀ {j : Nat} {y : Nod}, (low l k (c + 1))[j]? = some y → (j ≠ k + 1 + c ∧ (low l k c)[j]? = some y) ∨ (j = k + 1 + c ∧ y = { x with d := x.d - 1 }) := by
    intro j y hy
    by_cases e : j = k + 1 + c
    · subst e
      rw [low_this hx] at hy
      exact .inr ⟨rfl, (Option.some.inj hy).symm⟩
    · rw [low_next e] at hy
      exact .inl ⟨e, hy⟩
  have hs : ∀ {j : Nat} {y : Nod}, (low l k (c + 1))[j]? = some y → ∃ z, (low l k c)[j]? = some z ∧ y.o = z.o ∧ y.i = z.i := by
    intro j y hy
    rcases hat hy with ⟨_, h2⟩ | ⟨rfl, rfl⟩
    · exact ⟨y, h2, rfl, rfl⟩
    · exact ⟨x, hlx, rfl, rfl⟩
  refine ⟨by omega, by omega, (Go.heap_setCell_other _ _ _ _ hbq).trans h.head, ?_, h.inj, h.gb, h.gm, h.gp, ?_, ?_, h.map.of_block (Go.heap_setCell_other _ _ _ _ hmq), ?_⟩
  · intro j r y hr hy
    rcases hat hy with ⟨e, h2⟩ | ⟨rfl, rfl⟩
    · have hne : r ≠ q := fun e2 => e (h.inj _ _ _ hr (e2 ▸ hq))
      exact (Go.heap_setCell_other _ _ _ _ hne).trans (h.row j r y hr h2)
    · rw [hq] at hr
      cases hr
      exact Go.heap_setCell_same _ _ _ _ _ _ hrq
  · intro i j y z hi hj h1 h2
    obtain ⟨y', a1, a2, a3⟩ := hs hi
    obtain ⟨z', b1, b2, b3⟩ := hs hj
    exact h.slots _ _ _ _ a1 b1 (by rw [← a2, ← b2, h1]) (by rw [← a3, ← b3, h2])
  · intro j y hy
    rcases hat hy with ⟨e, h2⟩ | ⟨rfl, rfl⟩
    · exact h.ins _ _ h2
    · obtain ⟨a, b, c', d⟩ := h.ins _ _ hlx
      exact ⟨a, b, by show 0 ≤ x.d - 1; omega, by show x.d - 1 ≤ _; omega⟩
  · intro o i r ho hi
    rw [h.finds o i r ho hi]
    constructor
    · rintro ⟨j, y, h1, h2, h3, h4⟩
      by_cases e : j = k + 1 + c
      · subst e
        rw [hlx] at h2
        cases h2
        exact ⟨_, _, h1, low_this hx, h3, h4⟩
      · exact ⟨j, y, h1, (low_next e).trans h2, h3, h4⟩
    · rintro ⟨j, y, h1, h2, h3, h4⟩
      obtain ⟨z, a1, a2, a3⟩ := hs h2
      exact ⟨j, z, h1, a1, by rw [← a2]; exact h3, by rw [← a3]; exact h4⟩
def removeA (l : List Nod) (o i : Int) : List Nod × Int :=
  match idx l o i with
  | none => (l, 10)
  | some k => ((low l k (belowN l k)).eraseIdx k, 0)
/-- What Remove's rounds leave. -/
structure RemI (w : World) (B b m n : Nat) (ps : List Nat) (l : List Nod) (f : Int → Int → Option Nat) (k p : Nat) (pre : List Nat) (W : World) : Prop where
  tree : TreeAt W B b m n ps (low l k pre.length) f
  box : W.cell? ⟨w.heap.size + 1, 0, none⟩ = some (.pointer (some ⟨p, 0, none⟩))
  lt : w.heap.size + 2 ≤ W.heap.size
  only : TOnly w W b m ps ps
theorem RemI.own {w : World} {B b m n : Nat} {ps : List Nat} {l : List Nod} {f : Int → Int → Option Nat} {k p : Nat} (H : TreeAt w B b m n ps l f) : OwnFrom (w.heap.size + 2) (RemI w B b m n ps l f k p) := by
  intro s A C row h hg hr
  have e : ∀ j, j < w.heap.size + 2 → C.heap[j]? = A.heap[j]? := fun j hj => hg.block j (Nat.lt_of_lt_of_le hj h.lt) (fun e => by have := (hr j e.symm).1; omega)
  refine ⟨h.tree.of_blocks (fun j hj => e j (by have := H.lt hj; omega)), ?_, Nat.le_trans h.lt hg.size, hg.os.trans h.only.os, hg.tape.trans h.only.tape, hg.output.trans h.only.output, Nat.le_trans h.only.size hg.size, fun j hj hf => (e j (by omega)).trans (h.only.block j hj hf), h.only.foot⟩
  rw [show C.cell? ⟨w.heap.size + 1, 0, none⟩ = A.cell? ⟨w.heap.size + 1, 0, none⟩ from by unfold World.cell?; simp only [e (w.heap.size + 1) (by omega)]]
  exact h.box
theorem RemI.rows {w W : World} {B b m n : Nat} {ps : List Nat} {l : List Nod} {f : Int → Int → Option Nat} {k p : Nat} {pre : List Nat} (h : RemI w B b m n ps l f k p pre W) : Rows W ps l k pre.length (w.heap.size + 1) p := by
  refine ⟨h.box, fun j q hq => ?_, fun j q y hq hy hj => ?_⟩
  · obtain ⟨z, hz⟩ := get_len h.tree.len hq
    exact (place_cells (h.tree.row j q z hq hz)).2.2.2.2.1
  · have hz : (low l k pre.length)[j]? = some y := by rw [low_out (by omega)]; exact hy
    exact (place_cells (h.tree.row j q y hq hz)).2.2.1
theorem RemI.step {w W : World} {B b m n : Nat} {ps : List Nat} {l : List Nod} {f : Int → Int → Option Nat} {k p : Nat} {pre pre' : List Nat} {q j : Nat} {v : Value} (h : RemI w B b m n ps l f k p pre W) (ht : TreeAt (W.setCell ⟨q, 2, none⟩ v) B b m n ps (low l k (pre.length + 1)) f) (hq : ps[j]? = some q) (hp : pre'.length = pre.length + 1) (hql : q < w.heap.size) : RemI w B b m n ps l f k p pre' (W.setCell ⟨q, 2, none⟩ v) := by
  refine ⟨by rw [hp]; exact ht, ?_, by have := h.lt; simp; omega, h.only.os, h.only.tape, h.only.output, by have := h.only.size; simp; omega, fun i hi hf => ?_, h.only.foot⟩
  · rw [World.cell?_setCell_other _ _ _ _ (by intro e2; injection e2 with e2 _ _; omega)]
    exact h.box
  · have hne : i ≠ q := fun e => hf (e ▸ foot_at hq)
    exact (Go.heap_setCell_other _ _ _ _ hne).trans (h.only.block i hi hf)
set_option maxRecDepth 100000 in
set_option maxHeartbeats 1000000 in
theorem remove_in (w : World) (B b m n : Nat) (ps : List Nat) (l : List Nod) (f : Int → Int → Option Nat) (o i : Int) (k p : Nat) (x : Nod) (ho : InS o) (hi : InS i) (h : TreeAt w B b m n ps l f) (hn : n < 1000000) (hk : ps[k]? = some p) (hx : l[k]? = some x) (hxs : x.o = o ∧ x.i = i) :
    CallsIn Fence.wide 3 Try.prog 26 #[.pointer (some ⟨b, 0, none⟩), slV o i] w fun e w' => e = .returned (.int .i64 0) ∧ Left w w' B b m (n + 1) ps ((low l k (belowN l k)).eraseIdx k) := by
  have hf : f o i = some p := (h.finds o i p ho hi).2 ⟨k, x, hk, hx, hxs⟩
  have hal : Below w.heap.size w (w.alloc (slO o i)) := bal (Below.refl _ _) _
  have hl := h.look_ok (W := (w.alloc (slO o i)).drew) (hal.drew.block m (h.lt (.inr (.inl rfl)))) ho hi
  rw [hf] at hl
  simp only [ptrV, Option.isSome] at hl
  obtain ⟨c0, c1, c2, cz⟩ := head_cells h.head
  have hbl : b < w.heap.size := h.lt (.inl rfl)
  have H := Lib.hid h
  have HK := Lib.hid hk
  have HX := Lib.hid hx
  clear h hk hx hal
  refine callsIn_of_wp_marks Try.func26 rfl trivial ?_ rfl
  simp only [Try.ntmps26, List.size_toArray, List.length_cons, List.length_nil, Nat.reduceAdd, Nat.reduceSub, Array.replicate_succ, Array.replicate_zero, List.push_toArray, List.append_toArray, List.nil_append, List.cons_append]
  gi_wp2
  gi_region
  gi_wp2_with (refine ⟨trivial, ?_⟩; gi_at_call 39; refine (below_in _ _ _).mono ?_; rintro e w' ⟨rfl, rfl⟩)
  obtain ⟨w1, hw1⟩ : ∃ x, x = ((w.alloc (slO o i)).alloc (.cells #[.pointer (some ⟨p, 0, none⟩)] 60)).drew := ⟨_, rfl⟩
  rw [← hw1]
  have hsz : w1.heap.size = w.heap.size + 2 := by rw [hw1]; simp
  have hb1 : Below w.heap.size w w1 := hw1 ▸ (bal (bal (Below.refl _ _) _) _).drew
  have inv : RemI w B b m n ps l f k p [] w1 := by
    refine ⟨?_, ?_, by omega, .of_below hb1⟩
    · show TreeAt w1 B b m n ps (low l k 0) f
      rw [low_zero]
      exact H.out.call hb1
    · rw [hw1]; go_simp
  clear hw1 hl c0 c1 c2 cz hf
  refine wpIn_range_linkedP (α := Nat) rfl (by decide) (gf := 44) (lb := #[.pointer (some ⟨w.heap.size + 1, 0, none⟩)]) rfl trivial (enters_of Try.func44 (by kernel_rfl) rfl)
    (encs := fun x => #[ptrV ps[x]?]) (V := fun pre x => x = k + 1 + pre.length ∧ pre.length < belowN l k) (S := fun xs => xs = List.range' (k + 1) (belowN l k)) (N := belowN l k) (RemI w B b m n ps l f k p) ?hseq (fun _ => rfl) (hsz ▸ RemI.own H.out) inv
    (fun x => { tmps := #[.pointer (some ⟨b, 0, none⟩), slV o i, undef, .pointer (some ⟨w.heap.size, 0, none⟩), .int .i64 0, .pointer (some ⟨p, 0, none⟩), .bool true, ptrV ps[x]?, .pointer (some ⟨b, 0, none⟩), .bool false, .tuple #[.pointer (some ⟨p, 0, none⟩), .bool true], .pointer (some ⟨b, 0, none⟩), .pointer (some ⟨b, 0, none⟩), .pointer (some ⟨b, 2, none⟩), .map (some m), .agg #[.int .i64 o, .int .i64 i], .tuple #[.pointer (some ⟨p, 0, none⟩), .bool true], .pointer (some ⟨p, 0, none⟩), .bool true, .bool true, .bool false, .pointer (some ⟨p, 0, none⟩), .func (.func 44) #[] #[.pointer (some ⟨w.heap.size + 1, 0, none⟩)], ptrV ps[x]?, undef, undef, undef, undef, undef, undef, undef, undef, undef, undef], defers := [] }) ?hassign ?hbody ?hdone
  case hseq =>
    intro l' J W hB hAb hJI hY h0
    exact below1_linked _ l' (w.heap.size + 1) W ps l k p x H.out.len H.out.inj HK.out HX.out J hY h0
      (fun pre W1 j hj => by
        have hbd := below_drewN (Below.refl 0 W1) j
        have hg : W1.grownBy (W1.drewN j) none := ⟨hbd.os, hbd.tape, hbd.output, by rw [World.heap_drewN]; exact Nat.le_refl _, fun q _ _ => by rw [World.heap_drewN]⟩
        exact hAb pre W1 _ none hj hg (fun r e => by cases e)) (fun pre W1 hj => (hJI pre W1 hj).rows)
  case hassign =>
    intro l' x' W K hK
    gi_wp2
    exact hK
  case hbody =>
    rintro l' pre x' W ⟨rfl, hlt⟩ hI hlen
    obtain ⟨y, hy, hyd⟩ := belowN_in HX.out hlt
    obtain ⟨q, hq⟩ := get_len H.out.len.symm hy
    have hly : (low l k pre.length)[k + 1 + pre.length]? = some y := by rw [low_out (by omega)]; exact hy
    have hrq := hI.tree.row _ q y hq hly
    obtain ⟨q0, q1, q2, q3, q4, qz⟩ := place_cells hrq
    have hxd := (H.out.ins k x HX.out).2.2
    have hyb := (H.out.ins _ y hy).2.2
    have hd1 : 1 ≤ y.d := by omega
    have hd2 : y.d ≤ 1000000 := by omega
    have HR := Lib.hid (low_tree hI.tree hq hy hd1)
    generalize hyy : y.d = d at *
    have HI := Lib.hid hI
    rw [hq, ptrV_some]
    clear hI hrq q0 q1 q3 q4 hly hy hyd hxd hyb
    gi_wp2
    refine ⟨KeepsOthers.setCell _ _ _, HI.out.step HR.out hq (by simp) (H.out.lt (foot_at hq))⟩
  case hdone =>
    rintro D xs W hD rfl hI hK
    have hxl : (low l k (belowN l k))[k]? = some x := by rw [low_out (by omega)]; exact HX.out
    have hT := hI.tree
    rw [List.length_range'] at hT
    have HT := Lib.hid hT
    have HXL := Lib.hid hxl
    have HI := Lib.hid hI
    clear hT hxl hI
    gi_wp2_with (refine ⟨trivial, ?_⟩; gi_at_call 41; refine (callsIn_wide.2 (unlink_any _ B b m n ps _ f p k x HT.out HK.out HXL.out)).mono ?_; rintro e w2 ⟨⟨v, rfl⟩, hT2, hO2⟩)
    have hD' : w.heap.size + 2 ≤ D := by omega
    have hnf : ¬ foot b m ps D := fun e => by have := H.out.lt e; omega
    have hDW : D < W.heap.size := (Array.getElem?_eq_some_iff.1 hK).1
    have hK2 : w2.heap[D]? = some (.deferred (some [])) := (hO2.block D hDW hnf).trans hK
    refine ⟨by simp, .inl ⟨_, _, rfl, run_takeDeferred hK2, ?_⟩⟩
    have hO := HI.out.only.trans hO2
    have hput : ∀ j, j ≠ D → (w2.putObj D (.deferred none)).heap[j]? = w2.heap[j]? := fun j hj => World.putObj_heap_other hj
    refine ⟨_, results_tmp rfl _ _ _, rfl, _, _, (hT2.of_blocks (fun j hj => hput j (fun e => hnf (hO2.foot j (by omega) (e ▸ hj) |> fun q => e ▸ q)))).mono (Nat.le_succ _), ?_⟩
    exact ⟨hO.os, hO.tape, hO.output, by have := hO.size; simp [World.putObj]; omega, fun j hj hf => (hput j (by omega)).trans (hO.block j hj hf), hO.foot⟩
end Go.Proofs.Ytebgmphbkjpfcaa
