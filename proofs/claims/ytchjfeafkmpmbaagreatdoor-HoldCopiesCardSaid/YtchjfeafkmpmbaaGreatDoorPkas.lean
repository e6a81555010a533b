import Derived.Test.YtchjfeafkmpmbaaGreatDoorPkar
import Derived.Deep.RegionHeld3
namespace Go.Proofs.YtchjfeafkmpmbaaGreatDoor
set_option linter.unusedVariables false
set_option linter.unusedSimpArgs false
set_option maxRecDepth 100000
set_option maxHeartbeats 8000000
open Lib (hid)
section
open Go.ChangeShapes Go.WideShapes Go.ChangeAt Go.RowKit Go.Shelf
theorem nodsC_len : ∀ l : List Nod, (nodsC l).length = l.length * 3
 | [] => rfl
 | x :: l => by
  have := nodsC_len l
  show (nodC x ++ nodsC l).length = _
  rw [List.length_append, this]
  simp; omega
theorem nodsC_set : ∀ (l : List Nod) (k : Nat) (x : Nod) (o i : Int), l[k]? = some x → ((nodsC l).set (k * 3) (.int .i64 o)).set (k * 3 + 1) (.int .i64 i) = nodsC (l.set k ⟨o, i, x.d⟩)
 | [], k, x, o, i, h => by simp at h
 | y :: l, 0, x, o, i, h => by simp at h; subst h; rfl
 | y :: l, k + 1, x, o, i, h => by
  have := nodsC_set l k x o i (by simpa using h)
  have e : nodsC (y :: l) = .int .i64 y.o :: .int .i64 y.i :: .int .i64 y.d :: nodsC l := rfl
  have e2 : nodsC ((y :: l).set (k + 1) ⟨o, i, x.d⟩) = .int .i64 y.o :: .int .i64 y.i :: .int .i64 y.d :: nodsC (l.set k ⟨o, i, x.d⟩) := rfl
  rw [e, e2, ← this, show (k + 1) * 3 = k * 3 + 1 + 1 + 1 by omega]
  rfl
theorem rset {w W : World} {rb g c k : Nat} {l : List Nod} {x : Nod} (o i : Int) (h : RefT W rb (.slice (some ⟨g, 0, none⟩) l.length c) l) (hx : l[k]? = some x) (hO : OnlyR rb w W) (hg : w.heap.size ≤ g) :
  RefT ((W.setCell ⟨g, k * 3, none⟩ (.int .i64 o)).setCell ⟨g, k * 3 + 1, none⟩ (.int .i64 i)) rb (.slice (some ⟨g, 0, none⟩) l.length c) (l.set k ⟨o, i, x.d⟩) ∧
  OnlyR rb w ((W.setCell ⟨g, k * 3, none⟩ (.int .i64 o)).setCell ⟨g, k * 3 + 1, none⟩ (.int .i64 i)) := by
 have hne : rb ≠ g := fun e => h.ne (by rw [e]; rfl)
 refine ⟨⟨(Go.heap_setCell_other _ _ _ _ hne).trans ((Go.heap_setCell_other _ _ _ _ hne).trans h.blk), ?_, h.ne, by rw [List.length_set]; exact h.le, fun y hy => ?_⟩, hO.os, hO.tape, hO.output, by simp; exact hO.size, fun q hq hn => ?_, fun hr q ⟨v', e, z⟩ => hO.own hr q ⟨v', (World.cell?_of_block ((Go.heap_setCell_other _ _ _ _ hne).trans (Go.heap_setCell_other _ _ _ _ hne))).symm.trans e, z⟩⟩
 ·rw [List.length_set]
  rcases h.row.2 with ⟨e, _⟩ | ⟨g', cap, cur, e, q1, q2, q3, q4, q5, q6⟩
  ·cases e
  ·cases e
   have hk := (lgs hx).1
   have b1 := Go.heap_setCell_same _ _ (k * 3) _ _ (.int .i64 o) q2
   have b2 := Go.heap_setCell_same _ _ (k * 3 + 1) _ _ (.int .i64 i) b1
   refine ⟨by rw [nodsC_len, List.length_set], .inr ⟨g, c, _, rfl, Nat.zero_le _, b2, q3, q4, by simp [q5], ?_⟩⟩
   rw [Array.toList_setIfInBounds, Array.toList_setIfInBounds, List.take_set, List.take_set, q6]
   exact nodsC_set l k x o i hx
 ·rcases List.mem_or_eq_of_mem_set hy with q | q
  ·exact h.dep y q
  ·rw [q]; exact h.dep x (List.mem_of_getElem? hx)
 ·have : q ≠ g := by omega
  exact (Go.heap_setCell_other _ _ _ _ this).trans ((Go.heap_setCell_other _ _ _ _ this).trans (hO.block q hq hn))
theorem rcopied {w W w3 : World} {rb : Nat} {v u : Value} {l : List Nod} (h : RefT w rb v l) (hb : Below w.heap.size w W) (hown : w3.ownsRow w.heap.size 44 3 u (0 + l.length) ([] ++ nodsC l)) (hg : W.grownBy w3 none) :
  RefT (w3.setCell ⟨rb, 0, none⟩ u) rb u l ∧ OnlyR rb w (w3.setCell ⟨rb, 0, none⟩ u) := by
 rw [Nat.zero_add, List.nil_append] at hown
 exact h.store (hb.grown hg hb.size (fun k e => by cases e)) hown h.le h.dep
theorem row_news {W : World} {rb g c : Nat} {l : List Nod} {n : Nat} (h : RefT W rb (.slice (some ⟨g, 0, none⟩) n c) l) : ∀ j u, (nodsC l)[j]? = some u → W.cell? ((⟨g, 0, none⟩ : Addr).add j) = some u := fun j u hj => h.row.cells (g := g) rfl j u hj
theorem nods_one {l : List Nod} : ∀ u ∈ nodsC l, u.oneCell' = true := by
 intro u hu
 unfold nodsC at hu
 obtain ⟨x, _, hx⟩ := List.mem_flatMap.1 hu
 simp at hx
 rcases hx with rfl | rfl | rfl <;> rfl
theorem swap_set1 {l : List Nod} (hO : Once l) {k : Nat} {x : Nod} {o i p j : Int} (hx : l[k]? = some x) (he : x.o = o ∧ x.i = i) (hn : idx l p j = none) : l.set k ⟨p, j, x.d⟩ = swapA l o i p j := by
 unfold swapA
 apply List.ext_getElem?
 intro q
 rw [List.getElem?_set, List.getElem?_map]
 by_cases hq : k = q
 ·subst hq
  rw [if_pos rfl, if_pos (lgs hx).1, hx]
  show _ = some (sw o i p j x)
  unfold sw
  rw [if_pos he]
 ·rw [if_neg hq]
  cases hy : l[q]? with
  | none => rfl
  | some y =>
   show _ = some (sw o i p j y)
   unfold sw
   rw [if_neg (fun e => hq (hO _ _ _ _ hx hy (by omega) (by omega))), if_neg (fun e => idx_none hn hy e)]
theorem bx2 (w : World) (o i p j : Int) : Bx ((w.alloc (slO o i)).alloc (slO p j)) w.heap.size o i ∧ Bx ((w.alloc (slO o i)).alloc (slO p j)) (w.heap.size + 1) p j := by
 have h := Bx.fresh (w.alloc (slO o i)) p j
 rw [World.size_alloc] at h
 exact ⟨(Bx.fresh w o i).call (bal (Below.refl _ _) _), h⟩
theorem bx_same {W W' : World} {s : Nat} {o i : Int} (h : Bx W s o i) (e : W'.heap[s]? = W.heap[s]?) (hz : W.heap.size ≤ W'.heap.size) : Bx W' s o i := by
 have hb := e.trans h.blk
 refine ⟨?_, ?_, fun k => Go.frozen_of_row _ _ _ _ _ hb, Nat.lt_of_lt_of_le h.lt hz, hb⟩ <;> (unfold World.cell?; simp only [hb]; rfl)
theorem rslot_cells {W : World} {rb g c n k : Nat} {l : List Nod} {x : Nod} (h : RefT W rb (.slice (some ⟨g, 0, none⟩) n c) l) (hx : l[k]? = some x) : W.cell? ⟨g, k * 3, none⟩ = some (.int .i64 x.o) ∧ W.cell? ⟨g, k * 3 + 1, none⟩ = some (.int .i64 x.i) ∧ (∀ j, W.frozen? ⟨g, j, none⟩ = false) ∧ g < W.heap.size ∧ g ≠ rb := by
 have e : ∀ j, ((⟨g, 0, none⟩ : Addr).add j) = ⟨g, j, none⟩ := fun j => by unfold Addr.add; split <;> simp_all
 obtain ⟨a1, a2, _⟩ := nodsC_get l k x hx
 have b1 := row_news h _ _ a1
 have b2 := row_news h _ _ a2
 rw [e] at b1 b2
 refine ⟨b1, b2, ?_, (h.row.lt g rfl).2, fun q => h.ne (by rw [← q]; rfl)⟩
 rcases h.row.2 with ⟨q, _⟩ | ⟨g', cap, cur, q, q1, q2, _⟩
 ·cases q
 ·cases q
  exact fun j => Go.frozen_of_row _ _ _ _ _ q2
theorem bx_copied {W w3 : World} {rb s : Nat} {o i : Int} {u : Value} (h : Bx W s o i) (hg : W.grownBy w3 none) (hs : s ≠ rb) : Bx (w3.setCell ⟨rb, 0, none⟩ u) s o i := by
 refine bx_same h ((Go.heap_setCell_other _ _ _ _ hs).trans (hg.block _ h.lt (by simp))) (by simp; exact hg.size)
theorem row_form3 {w : World} {base : Nat} {e : TypeId} {s : Nat} {v : Value} {n : Nat} {xs : List Value} (h : w.ownsRow base e s v n xs) (h0 : 0 < n) : ∃ g cap, v = .slice (some ⟨g, 0, none⟩) n cap ∧ base ≤ g := by
 rcases h.2 with ⟨_, h⟩ | ⟨g, cap, cur, rfl, hg, _⟩
 ·omega
 ·exact ⟨g, cap, rfl, hg⟩
theorem rmove_any (w : World) (rb : Nat) (v : Value) (l : List Nod) (o i p j : Int) (h : RefT w rb v l) (hO : Once l) :
  Calls Tryz.prog 90 #[.pointer (some ⟨rb, 0, none⟩), slV o i, slV p j] w fun e w' => e = .returned (.int .i64 (moveA l o i p j).2) ∧ (∃ u, RefT w' rb u (moveA l o i p j).1) ∧ OnlyR rb w w' := by
 have hal : Below w.heap.size w ((w.alloc (slO o i)).alloc (slO p j)) := bal (bal (Below.refl _ _) _) _
 have HA := hid hal
 have HR := hid h
 have HBX := hid (bx2 w o i p j)
 unfold moveA
 cases hk : idx l o i with
 | none =>
  have hat : atI l o i = -1 := by unfold atI; rw [hk]
  have HAT := hid hat
  simp only [Option.isSome_none, Bool.false_eq_true, if_false]
  clear h hal hk hat
  go_enter Tryz.func90, Tryz.ntmps90
  go_wp2_with (go_at_call 95; with_reducible refine (rat_any _ rb v l o i (HR.out.call HA.out)).mono ?_; rw [HAT.out]; rintro e w1 ⟨rfl, hb1⟩)
  go_ret
  have hb := HA.out.trans (hb1.mono HA.out.size)
  exact ⟨rfl, ⟨_, HR.out.call hb⟩, .of_below hb⟩
 | some k =>
  obtain ⟨x, hx, hxs⟩ := idx_some hk
  have hkl := (lgs hx).1
  have hat : atI l o i = (k : Int) := by unfold atI; rw [hk]
  have HAT := hid hat
  have hle := h.le
  simp only [Option.isSome_some, if_true]
  have hkx : ¬ (k : Int) < 0 := by omega
  have hrl := (ags h.blk).1
  cases hk2 : idx l p j with
  | some k2 =>
   have hat2 : atI l p j = (k2 : Int) := by unfold atI; rw [hk2]
   have HAT2 := hid hat2
   simp only [Option.isSome_some, if_true]
   have hk2x : (0 : Int) ≤ k2 := by omega
   clear h hal hk hat hx hk2 hat2
   go_enter Tryz.func90, Tryz.ntmps90
   go_wp2_with (first
    | (go_at_call 95; with_reducible refine (rat_any _ rb v l p j (HR.out.call HB1.out)).mono ?_; rw [HAT2.out]; rintro e w2 ⟨rfl, hb2⟩; have HB2 := hid (HB1.out.trans (hb2.mono HB1.out.size)))
    | (go_at_call 95; with_reducible refine (rat_any _ rb v l o i (HR.out.call HA.out)).mono ?_; rw [HAT.out]; rintro e w1 ⟨rfl, hb1⟩; have HB1 := hid (HA.out.trans (hb1.mono HA.out.size)); obtain ⟨b0, b1, bz, bl, bb⟩ := HBX.out.2.call hb1; clear hb1 bb bz))
   go_ret
   exact ⟨rfl, ⟨_, HR.out.call HB2.out⟩, .of_below HB2.out⟩
  | none =>
   have hat2 : atI l p j = -1 := by unfold atI; rw [hk2]
   have HAT2 := hid hat2
   simp only [Option.isSome_none, Bool.false_eq_true, if_false]
   obtain ⟨i0, hi0, hz0, hz1, hz2⟩ := info_parts infoNd
   have HI0 := hid hi0
   obtain ⟨g, c, rfl, hg, hgr, hc⟩ := h.getg (by omega)
   have HSW := hid (swap_set1 hO hx hxs hk2)
   have HX := hid hx
   have HHK := hid (show 0 < l.length ∧ k < l.length ∧ l.length ≤ 1000 from ⟨by omega, hkl, hle⟩)
   have HLN := hid (nodsC_len l)
   clear h hal hk hat hx hk2 hat2 hc hi0
   go_enter Tryz.func90, Tryz.ntmps90
   go_upto_region 7 with (first
    | (go_at_call 95; with_reducible refine (rat_any _ rb _ l p j (HR.out.call HB1.out)).mono ?_; rw [HAT2.out]; rintro e w2 ⟨rfl, hb2⟩; have HB2 := hid (HB1.out.trans (hb2.mono HB1.out.size)); have HBX2 := hid ((HBX.out.2.call HB1A.out).call hb2); obtain ⟨r0, rz⟩ := cell_box (HR.out.call HB2.out).blk; have HCB := hid (row_news (HR.out.call HB2.out)); clear hb2)
    | (go_at_call 95; with_reducible refine (rat_any _ rb _ l o i (HR.out.call HA.out)).mono ?_; rw [HAT.out]; rintro e w1 ⟨rfl, hb1⟩; have HB1A := hid hb1; have HB1 := hid (HA.out.trans (hb1.mono HA.out.size)); obtain ⟨b0, b1, bz, bl, bb⟩ := HBX.out.2.call hb1; clear hb1 bb bz)
    | (at_builtin; refine wpList_append_own _ rfl _ _ 41 rfl w.heap.size 44 i0 (.agg #[.int .i64 0, .int .i64 0, .int .i64 0]) 3 24 Tryz.underlying41 HI0.out hz0 hz1 hz2 rfl (by decide) (.slice none 0 0) 0 [] rfl (World.ownsRow_nil _ _ _ _) ⟨g, 0, none⟩ l.length c (nodsC l) rfl HLN.out HCB.out nods_one (by unfold maxLen; omega) (by omega) HB2.out.size ?_; intro u' w3 hown hgrow _; obtain ⟨g3, c3, rfl, hg3⟩ := row_form3 hown (by omega); have HOW := hid hown; have HGR := hid hgrow; obtain ⟨m0, mz⟩ := cell_box ((hgrow.block _ (Nat.lt_of_lt_of_le hrl HB2.out.size) (by simp [Value.ownBlock])).trans (HR.out.call HB2.out).blk); clear hown hgrow))
   have hcp := rcopied HR.out HB2.out HOW.out HGR.out
   rw [Nat.zero_add] at hcp
   have hbx4 := bx_copied (rb := rb) (u := .slice (some ⟨g3, 0, none⟩) l.length c3) HBX2.out HGR.out (by omega)
   obtain ⟨w4, hw4⟩ : ∃ w4, w4 = w3.setCell ⟨rb, 0, none⟩ (.slice (some ⟨g3, 0, none⟩) l.length c3) := ⟨_, rfl⟩
   (try rw [Nat.zero_add])
   rw [← hw4] at hcp hbx4 ⊢
   obtain ⟨d0, d1, dz, dl, db⟩ := hbx4
   obtain ⟨n0, nz⟩ := cell_box hcp.1.blk
   obtain ⟨e0, e1, ez, el, en⟩ := rslot_cells hcp.1 HX.out
   have hen : rb ≠ g3 := fun q => en q.symm
   have HFIN := hid (rset p j hcp.1 HX.out hcp.2 hg3)
   have hkl2 := HHK.out.2.1
   have hkl3 : (k : Int) < l.length := by omega
   have hk0 : (0 : Int) ≤ k := by omega
   clear hw4 hcp m0 mz r0 rz db nz b0 b1
   go_region
   all_goals
    go_wp2
    go_ret
    rw [← HSW.out]
    exact ⟨rfl, ⟨_, HFIN.out.1.call (Below.refl _ _).drew⟩, HFIN.out.2.trans (OnlyR.of_below (Below.refl _ _).drew)⟩
end
end Go.Proofs.YtchjfeafkmpmbaaGreatDoor
