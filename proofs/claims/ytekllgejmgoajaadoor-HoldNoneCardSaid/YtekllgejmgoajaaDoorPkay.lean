import Derived.Test.YtekllgejmgoajaaDoorPkax
import Derived.Maps.AppendAt
import Derived.Stop.RegionWithIn
import Derived.Deep.RegionHeld3
namespace Go.Proofs.YtekllgejmgoajaaDoor
set_option linter.unusedVariables false
set_option linter.unusedSimpArgs false
set_option maxRecDepth 100000
set_option maxHeartbeats 8000000
open Lib (hid)
section
open Go.ChangeShapes Go.WideShapes Go.ChangeAt Go.RowKit Go.Shelf
attribute [local go_sem] Oper.semAt_some
abbrev sltC (x : Nod) : List Value := [.int .i64 x.o, .int .i64 x.i]
def slsC (l : List Nod) : List Value := l.flatMap sltC
theorem slsC_snoc (l : List Nod) (x : Nod) : slsC (l ++ [x]) = slsC l ++ sltC x := by simp [slsC]
theorem infoSl : (Tryd.prog.info? 23).map (fun i => (i.zero, i.size, i.bytes)) = some (some (.agg #[.int .i64 0, .int .i64 0]), 2, 16) := by kernel_rfl
def belowA (l : List Nod) (o i : Int) : List Nod :=
 match idx l o i with
 | none => []
 | some k => (l.drop (k + 1)).take (belowN l k)
theorem own_kept {A C : World} {base : Nat} {e : TypeId} {s : Nat} {v : Value} {n : Nat} {xs : List Value} {row : Option Nat} (h : A.ownsRow base e s v n xs) (hg : A.grownBy C row) (hr : ∀ r, row = some r → ∃ o : Obj, A.heap[r]? = some o ∧ o.isCells = false) : C.ownsRow base e s v n xs := by
 have hlt := h.lt
 refine ⟨h.1, ?_⟩
 rcases h.2 with h2 | ⟨g, cap, cur, rfl, q1, q2, q3⟩
 ·exact .inl h2
 ·refine .inr ⟨g, cap, cur, rfl, q1, (hg.block g (hlt g rfl).2 (fun e => ?_)).trans q2, q3⟩
  obtain ⟨o, ho, hc⟩ := hr g e.symm
  rw [q2] at ho
  cases ho
  cases hc
theorem own_block {A C : World} {base : Nat} {e : TypeId} {s : Nat} {v : Value} {n : Nat} {xs : List Value} (h : A.ownsRow base e s v n xs) (k : ∀ g, v.ownBlock = some g → C.heap[g]? = A.heap[g]?) : C.ownsRow base e s v n xs := by
 refine ⟨h.1, ?_⟩
 rcases h.2 with h2 | ⟨g, cap, cur, rfl, q1, q2, q3⟩
 ·exact .inl h2
 ·exact .inr ⟨g, cap, cur, rfl, q1, (k g rfl).trans q2, q3⟩
structure BelI (w1 : World) (ps : List Nat) (l : List Nod) (k p : Nat) (pre : List Nat) (W : World) : Prop where
 list : ∃ v, W.heap[w1.heap.size]? = some (.cells #[v] 41 (0, 0)) ∧ W.ownsRow (w1.heap.size + 2) 23 2 v pre.length (slsC ((l.drop (k + 1)).take pre.length))
 box : W.heap[w1.heap.size + 1]? = some (.cells #[.pointer (some ⟨p, 0, none⟩)] 70 (0, 0))
 lt : w1.heap.size + 2 ≤ W.heap.size
 below : Below w1.heap.size w1 W
theorem BelI.own {w1 : World} {ps : List Nat} {l : List Nod} {k p : Nat} : OwnFrom (w1.heap.size + 2) (BelI w1 ps l k p) := by
 intro s A C row h hg hr
 have e : ∀ j, j < w1.heap.size + 2 → C.heap[j]? = A.heap[j]? := fun j hj => hg.block j (Nat.lt_of_lt_of_le hj h.lt) (fun e => by have := (hr j e.symm).1; omega)
 obtain ⟨v, hv, hrow⟩ := h.list
 exact ⟨⟨v, (e _ (by omega)).trans hv, own_kept hrow hg (fun r e => (hr r e).2)⟩, (e _ (by omega)).trans h.box, Nat.le_trans h.lt hg.size,
  ⟨hg.os.trans h.below.os, hg.tape.trans h.below.tape, hg.output.trans h.below.output, Nat.le_trans h.below.size hg.size, fun j hj => (e j (by omega)).trans (h.below.block j hj)⟩⟩
theorem BelI.rows {w1 W : World} {B b m n : Nat} {ps : List Nat} {l : List Nod} {f : Int → Int → Option Nat} {k p : Nat} {pre : List Nat} (H : TreeAt w1 B b m n ps l f) (h : BelI w1 ps l k p pre W) : Rows W ps l k pre.length (w1.heap.size + 1) p := by
 have HT := H.call h.below
 refine ⟨(cell_box h.box).1, fun j q hq => ?_, fun j q y hq hy hj => ?_⟩
 ·obtain ⟨z, hz⟩ := get_len HT.len hq
  exact (place_cells (HT.row j q z hq hz)).2.2.2.2.1
 ·exact (place_cells (HT.row j q y hq hy)).2.2.1
theorem BelI.step {w1 W w2 : World} {ps : List Nat} {l : List Nod} {k p x : Nat} {pre : List Nat} {y : Nod} {v v' : Value} {t : TypeId} (h : BelI w1 ps l k p pre W) (hy : l[k + 1 + pre.length]? = some y)
  (hv : W.heap[w1.heap.size]? = some (.cells #[v] 41 (0, 0))) (hrow : W.ownsRow (w1.heap.size + 2) 23 2 v pre.length (slsC ((l.drop (k + 1)).take pre.length)))
  (hown : w2.ownsRow (w1.heap.size + 2) 23 2 v' (pre.length + 1) (slsC ((l.drop (k + 1)).take pre.length) ++ sltC y)) (hg : (W.alloc (.cells #[.int .i64 y.o, .int .i64 y.i] t)).drew.grownBy w2 v.ownBlock) :
  BelI w1 ps l k p (pre ++ [x]) (w2.setCell ⟨w1.heap.size, 0, none⟩ v') ∧ KeepsOthers W (w2.setCell ⟨w1.heap.size, 0, none⟩ v') := by
 have hlt := h.lt
 have sz := hg.size
 simp at sz
 have hvb : ∀ j, v.ownBlock = some j → w1.heap.size + 2 ≤ j ∧ j < W.heap.size := fun j e => hrow.lt j e
 have hvb' : ∀ j, v'.ownBlock = some j → w1.heap.size + 2 ≤ j := fun j e => (hown.lt j e).1
 have e : ∀ j, j < W.heap.size → v.ownBlock ≠ some j → w2.heap[j]? = W.heap[j]? := fun j hj hn => by
  rw [hg.block j (by simp; omega) (fun q => hn q.symm)]
  exact Below.heap_alloc _ _ _ hj
 have e2 : ∀ j, j < w1.heap.size + 2 → w2.heap[j]? = W.heap[j]? := fun j hj => e j (by omega) (fun q => by have := (hvb j q).1; omega)
 have htake : (l.drop (k + 1)).take (pre.length + 1) = (l.drop (k + 1)).take pre.length ++ [y] := by
  rw [List.take_add_one, List.getElem?_drop, hy]; rfl
 refine ⟨⟨⟨v', ?_, ?_⟩, ?_, by simp; omega, ?_⟩, ?_⟩
 ·exact Go.heap_setCell_same _ _ _ _ _ _ ((e2 _ (by omega)).trans hv)
 ·rw [List.length_append, List.length_singleton, htake, slsC_snoc]
  exact own_block hown (fun g hg' => Go.heap_setCell_other _ _ _ _ (by have := hvb' g hg'; simp; omega))
 ·exact (Go.heap_setCell_other _ _ _ _ (by simp)).trans ((e2 _ (by omega)).trans h.box)
 ·refine ⟨?_, ?_, ?_, ?_, fun j hj => ?_⟩
  ·exact hg.os.trans h.below.os
  ·exact hg.tape.trans h.below.tape
  ·exact hg.output.trans h.below.output
  ·simp; omega
  ·exact (Go.heap_setCell_other _ _ _ _ (by simp; omega)).trans ((e2 j (by omega)).trans (h.below.block j hj))
 ·refine ⟨by simp; omega, fun j ob hj hc => ?_⟩
  have hjl := (ags hj).1
  have hne : j ≠ w1.heap.size := fun q => by
   rw [q, hv] at hj
   cases hj
   cases hc
  refine (Go.heap_setCell_other _ _ _ _ hne).trans ((e j hjl (fun q => ?_)).trans hj)
  rcases hrow.2 with ⟨rfl, _⟩ | ⟨g, cap, cur, rfl, _, q2, _⟩
  ·cases q
  ·cases q
   rw [q2] at hj
   cases hj
   cases hc
attribute [-go_sem] Builtin.append_
theorem own_base {A : World} {base base' : Nat} {e : TypeId} {s : Nat} {v : Value} {n : Nat} {xs : List Value} (h : A.ownsRow base e s v n xs) (hb : base' ≤ base) : A.ownsRow base' e s v n xs := by
 refine ⟨h.1, ?_⟩
 rcases h.2 with h2 | ⟨g, cap, cur, rfl, q1, q2, q3⟩
 ·exact .inl h2
 ·exact .inr ⟨g, cap, cur, rfl, by omega, q2, q3⟩
theorem below_fn_in (w : World) (B b m n : Nat) (ps : List Nat) (l : List Nod) (f : Int → Int → Option Nat) (o i : Int) (k p : Nat) (x : Nod) (ho : InS o) (hi : InS i) (h : TreeAt w B b m n ps l f) (hn : n < 1000000) (hk : ps[k]? = some p) (hx : l[k]? = some x) (hxs : x.o = o ∧ x.i = i) :
  CallsIn Fence.wide 3 Tryd.prog 39 #[.pointer (some ⟨b, 0, none⟩), slV o i] w fun e w' => ∃ v, e = .returned v ∧ w'.ownsRow w.heap.size 23 2 v ((l.drop (k + 1)).take (belowN l k)).length (slsC ((l.drop (k + 1)).take (belowN l k))) ∧ Below w.heap.size w w' := by
 have hf : f o i = some p := (h.finds o i p ho hi).2 ⟨k, x, hk, hx, hxs⟩
 have hal : Below w.heap.size w (w.alloc (slO o i)) := bal (Below.refl _ _) _
 have HA := hid hal
 have HS := hid (Sl2.fresh w o i)
 have H := hid h
 have HF := hid hf
 clear hal hf
 obtain ⟨i0, hi0, hz0, hz1, hz2⟩ := info_parts infoSl
 have HI0 := hid hi0
 clear hi0
 refine callsIn_of_wp_marks Tryd.func39 rfl trivial ?_ rfl
 simp only [Tryd.ntmps39, List.size_toArray, List.length_cons, List.length_nil, Nat.reduceAdd, Nat.reduceSub, Array.replicate_succ, Array.replicate_zero, List.push_toArray, List.append_toArray, List.nil_append, List.cons_append]
 gi_wp2_with (refine ⟨trivial, ?_⟩; gi_at_call 48; refine (callsIn_wide.2 (has_any _ B b m n ps l f o i ho hi (H.out.call HA.out))).mono ?_; rw [HF.out]; rintro e w1 ⟨rfl, hb1⟩; obtain ⟨s0, s1, sl⟩ := HS.out.call hb1; have HB1 := hid (HA.out.trans (hb1.mono HA.out.size)); have hT := H.out.call HB1.out; obtain ⟨c0, c1, c2, cz⟩ := head_cells hT.head; have hbl : b < w1.heap.size := hT.lt (.inl rfl); have hl := hT.look (W := (w1.alloc (.cells #[.slice none 0 0] 41)).drew) (Below.heap_alloc _ _ _ hT.map.lt) ho hi; rw [HF.out] at hl; simp only [ptrV] at hl; have HT := hid hT; clear hb1 hT)
 refine wpIn_mono (Q := NoPanic _) ?_ NoPanic.imp
 gi_region_with (first | (refine ⟨trivial, ?_⟩; gi_at_call 46; refine (below_in _ _ _).mono ?_; rintro e w' ⟨rfl, rfl⟩))
 all_goals
  refine NoPanic.normal ?_
  gi_wp2
  obtain ⟨w2, hw2⟩ : ∃ x, x = ((w1.alloc (.cells #[.slice none 0 0] 41)).alloc (.cells #[.pointer (some ⟨p, 0, none⟩)] 70)).drew := ⟨_, rfl⟩
  rw [← hw2]
  have hsz : w2.heap.size = w1.heap.size + 2 := by rw [hw2]; simp
  have hb2 : Below w1.heap.size w1 w2 := hw2 ▸ (bal (bal (Below.refl _ _) _) _).drew
  have inv : BelI w1 ps l k p [] w2 := by
   refine ⟨⟨.slice none 0 0, ?_, World.ownsRow_nil _ _ _ _⟩, ?_, by omega, hb2⟩
   ·rw [hw2]
    have e1 := Below.heap_alloc (w1.alloc (.cells #[.slice none 0 0] 41)) (.cells #[.pointer (some ⟨p, 0, none⟩)] 70) w1.heap.size (by simp)
    exact e1.trans (World.alloc_heap_new w1 _)
   ·rw [hw2]
    have e1 := World.alloc_heap_new (w1.alloc (.cells #[.slice none 0 0] 41)) (.cells #[.pointer (some ⟨p, 0, none⟩)] 70)
    rw [World.size_alloc] at e1
    exact e1
  clear hw2 hl c0 c1 c2 cz s0 s1
  refine wpIn_range_linkedP (α := Nat) rfl (by decide) (gf := 66) (lb := #[.pointer (some ⟨w1.heap.size + 1, 0, none⟩)]) rfl trivial (enters_of Tryd.func66 (by kernel_rfl) rfl)
   (encs := fun x => #[ptrV ps[x]?]) (V := fun pre x => x = k + 1 + pre.length ∧ pre.length < belowN l k) (S := fun xs => xs = List.range' (k + 1) (belowN l k)) (N := belowN l k) (BelI w1 ps l k p) ?hseq (fun _ => rfl) (hsz ▸ BelI.own) inv
   (fun x => { tmps := #[.pointer (some ⟨b, 0, none⟩), slV o i, undef, .pointer (some ⟨w.heap.size, 0, none⟩), .slice none 0 0, .pointer (some ⟨w1.heap.size, 0, none⟩), ptrV ps[x]?, .pointer (some ⟨b, 0, none⟩), .agg #[.int .i64 o, .int .i64 i], .bool true, .bool false, .pointer (some ⟨b, 0, none⟩), .pointer (some ⟨b, 0, none⟩), .pointer (some ⟨b, 2, none⟩), .map (some m), .agg #[.int .i64 o, .int .i64 i], .pointer (some ⟨p, 0, none⟩), .func (.func 66) #[] #[.pointer (some ⟨w1.heap.size + 1, 0, none⟩)], ptrV ps[x]?, undef, undef, undef, undef, undef, undef, undef, undef], defers := [] }) ?hassign ?hbody ?hdone
  case hseq =>
   intro l' J W hB hAb hJI hY h0
   exact below1_linked _ l' (w1.heap.size + 1) W ps l k p x HT.out.len HT.out.inj hk hx J hY h0
    (fun pre W1 j hj => by
     have hbd := below_drewN (Below.refl 0 W1) j
     have hg : W1.grownBy (W1.drewN j) none := ⟨hbd.os, hbd.tape, hbd.output, by rw [World.heap_drewN]; exact Nat.le_refl _, fun q _ _ => by rw [World.heap_drewN]⟩
     exact hAb pre W1 _ none hj hg (fun r e => by cases e)) (fun pre W1 hj => (hJI pre W1 hj).rows HT.out)
  case hassign =>
   intro l' x' W K hK
   gi_wp2
   exact hK
  case hbody =>
   rintro l' pre x' W ⟨rfl, hlt⟩ hI hlen
   obtain ⟨y, hy, hyd⟩ := belowN_in hx hlt
   obtain ⟨q, hq⟩ := get_len HT.out.len.symm hy
   have hTW := HT.out.call hI.below
   have hrq := hTW.row _ q y hq hy
   obtain ⟨q0, q1, q2, q3, q4, qz⟩ := place_cells hrq
   obtain ⟨v, hv, hrow⟩ := hI.list
   obtain ⟨v0, vz⟩ := cell_box hv
   have hql : q < W.heap.size := hTW.lt (foot_at hq)
   have hll := hI.lt
   have hlw : w1.heap.size < W.heap.size := by omega
   have hpl : pre.length ≤ 1000000 := by
    have := (lgs hy).1
    have := HT.out.le
    omega
   obtain ⟨v', w3, hrun, hown, hgrow, _, hat⟩ := run_append_own_at (P := Tryd.prog) (w := (W.alloc (.cells #[.int .i64 y.o, .int .i64 y.i] 23)).drew) (w1.heap.size + 2) 41 41 23 i0 (.agg #[.int .i64 0, .int .i64 0]) 2 16 Tryd.underlying41 HI0.out hz0 hz1 hz2 rfl (by decide) v pre.length _ (hrow.alloc _) ⟨W.heap.size, 0, none⟩ 1 1 (sltC y) rfl (news_at W _ (sltC y) _ rfl) (by simp [Value.oneCell']) (by unfold maxLen; omega) (by omega) (by simp; omega)
   obtain ⟨gg, cc, rfl⟩ : ∃ gg cc, v' = .slice (some ⟨gg, 0, none⟩) (pre.length + 1) cc := by
    rcases hown.2 with ⟨_, h0⟩ | ⟨gg, cc, cur, e, _⟩
    ·omega
    ·exact ⟨gg, cc, e⟩
   have HST := hid (hI.step (x := k + 1 + pre.length) hy hv hrow hown hgrow)
   have hvb : v.ownBlock ≠ some w1.heap.size := fun e => by have := (hrow.lt _ e).1; omega
   have e3 : w3.heap[w1.heap.size]? = W.heap[w1.heap.size]? := (hgrow.block _ (by simp; omega) (fun e => hvb e.symm)).trans (Below.heap_alloc _ _ _ (by omega))
   obtain ⟨g0, gz⟩ := cell_box (e3.trans hv)
   rw [hq, ptrV_some]
   clear hI hTW hrq q2 q3 q4 hy hyd hv hrow hown hgrow hat e3 hvb
   gi_wp2
   gi_region
   all_goals
    gi_wp2
    obtain ⟨a1, a2⟩ := HST.out
    first | exact ⟨a2, a1⟩ | exact ⟨rfl, a2, a1⟩
  case hdone =>
   rintro D xs W hD rfl hI hK
   obtain ⟨v, hv, hrow⟩ := hI.list
   obtain ⟨v0, vz⟩ := cell_box hv
   rw [List.length_range'] at hrow
   have HROW := hid hrow
   have HI := hid hI
   clear hrow hI hv
   gi_wp2
   refine ⟨by simp, .inl ⟨_, _, rfl, run_takeDeferred hK, ?_⟩⟩
   have hD' : w1.heap.size + 2 ≤ D := by omega
   have hput : ∀ j, j ≠ D → (W.putObj D (.deferred none)).heap[j]? = W.heap[j]? := fun j hj => World.putObj_heap_other hj
   have hB := HB1.out.trans (HI.out.below.mono HB1.out.size)
   have s1 := HB1.out.size
   refine ⟨_, results_tmp rfl _ _ _, _, rfl, ?_, hB.os, hB.tape, hB.output, by have := hB.size; simp [World.putObj]; omega, fun j hj => (hput j (by omega)).trans (hB.block j hj)⟩
   have hl2 : ((l.drop (k + 1)).take (belowN l k)).length = belowN l k := by
    have := belowN_le (lgs hx).1
    rw [List.length_take, List.length_drop]; omega
   rw [hl2]
   have h9 := HROW.out
   refine own_block (own_base h9 (by omega)) (fun g hg => hput g (fun e => ?_))
   rcases h9.2 with ⟨rfl, _⟩ | ⟨g', cap, cur, rfl, _, q2, _⟩
   ·cases hg
   ·cases hg
    have e' : g' = D := e
    rw [e', hK] at q2
    cases q2
end
section
open Go.ChangeShapes Go.WideShapes Go.ChangeAt Go.RowKit Go.Shelf
theorem below_any (w : World) (B b m n : Nat) (ps : List Nat) (l : List Nod) (f : Int → Int → Option Nat) (o i : Int) (ho : InS o) (hi : InS i) (h : TreeAt w B b m n ps l f) (hn : n < 1000000) :
  Calls Tryd.prog 39 #[.pointer (some ⟨b, 0, none⟩), slV o i] w fun e w' => ∃ v, e = .returned v ∧ w'.ownsRow w.heap.size 23 2 v (belowA l o i).length (slsC (belowA l o i)) ∧ Below w.heap.size w w' := by
 unfold belowA
 cases hk : idx l o i with
 | some k =>
  obtain ⟨x, hx, hxs⟩ := idx_some hk
  obtain ⟨p, hp⟩ := get_len h.len.symm hx
  exact callsIn_wide.1 (below_fn_in w B b m n ps l f o i k p x ho hi h hn hp hx hxs)
 | none =>
  have hf := h.find ho hi
  rw [hk] at hf
  change f o i = none at hf
  have hal : Below w.heap.size w (w.alloc (slO o i)) := bal (Below.refl _ _) _
  have HA := hid hal
  have H := hid h
  have HF := hid hf
  clear h hal hf hk
  go_enter Tryd.func39, Tryd.ntmps39
  go_wp2_with (go_at_call 48; refine (has_any _ B b m n ps l f o i ho hi (H.out.call HA.out)).mono ?_; rw [HF.out]; rintro e w1 ⟨rfl, hb1⟩)
  go_ret
  exact ⟨_, rfl, World.ownsRow_nil _ _ _ _, HA.out.trans (hb1.mono HA.out.size)⟩
def parUp (l : List Nod) (d : Int) : Nat → Option Nat
 | 0 => none
 | j + 1 => if ((l[j]?).map Nod.d).getD d < d then some j else parUp l d j
def parentA (l : List Nod) (o i : Int) : Option Nod := (idx l o i).bind fun k => (parUp l (((l[k]?).map Nod.d).getD 0) k).bind fun j => l[j]?
def parV (x : Option Nod) : Value := .tuple #[slV ((x.map Nod.o).getD 0) ((x.map Nod.i).getD 0), .bool x.isSome]
def posB (ps : List Nat) : Value → Nat
 | .pointer (some a) => ps.idxOf a.block + 1
 | _ => 0
end
end Go.Proofs.YtekllgejmgoajaaDoor
