import Derived.Test.YtchjfeafkmpmbaaGreatDoorQki
import Derived.Maps.AppendAt
import Derived.StillTailTactics
import Derived.Deep.RegionWith
import Derived.Deep.RegionHeld3
namespace Go.Proofs.YtchjfeafkmpmbaaGreatDoor
set_option linter.unusedVariables false
set_option linter.unusedSimpArgs false
set_option maxRecDepth 100000
set_option maxHeartbeats 8000000
open Lib (hid)
open Go.ChangeShapes Go.WideShapes Go.ChangeAt Go.RowKit Go.Shelf
section
theorem copy_nil (W : World) : (Builtin.append_ #[41, 41] 41 #[.slice none 0 0, .slice none 0 0]).run Tryz.prog W = .ok (.slice none 0 0) W := by
 simp [go_sem]
theorem copy_run {w W : World} {rb : Nat} {v : Value} {l : List Nod} (h : RefT W rb v l) (hz : w.heap.size ≤ W.heap.size) :
  ∃ u w2, (Builtin.append_ #[41, 41] 41 #[.slice none 0 0, v]).run Tryz.prog W = .ok u w2 ∧ w2.ownsRow w.heap.size 44 3 u l.length (nodsC l) ∧ W.grownBy w2 none := by
 obtain ⟨i0, hi0, hz0, hz1, hz2⟩ := info_parts infoNd
 have hle := h.le
 rcases h.row.2 with ⟨rfl, h0⟩ | ⟨g, cap, cur, rfl, _⟩
 ·obtain rfl : l = [] := List.length_eq_zero_iff.1 h0
  exact ⟨_, _, copy_nil W, World.ownsRow_nil _ _ _ _, ⟨rfl, rfl, rfl, Nat.le_refl _, fun _ _ _ => rfl⟩⟩
 ·obtain ⟨u, w2, h1, h2, h3, _⟩ := run_append_own_at (P := Tryz.prog) (w := W) w.heap.size 41 41 44 i0 (.agg #[.int .i64 0, .int .i64 0, .int .i64 0]) 3 24 Tryz.underlying41 hi0 hz0 hz1 hz2 rfl (by decide) (.slice none 0 0) 0 [] (World.ownsRow_nil _ _ _ _) ⟨g, 0, none⟩ l.length cap (nodsC l) (nodsC_len l) (row_news h) nods_one (by unfold maxLen; omega) (by omega) hz
  rw [Nat.zero_add, List.nil_append] at h2
  exact ⟨u, w2, h1, h2, h3⟩
theorem one_run {w W : World} {u : Value} {l : List Nod} (s : Nat) (x : Nod) (h : W.ownsRow w.heap.size 44 3 u l.length (nodsC l)) (hs : W.heap[s]? = some (.cells #[.int .i64 x.o, .int .i64 x.i, .int .i64 x.d] 44)) (hl : l.length ≤ 1000) (hz : w.heap.size ≤ W.heap.size) :
  ∃ g c w2, (Builtin.append_ #[41, 41] 41 #[u, .slice (some ⟨s, 0, none⟩) 1 1]).run Tryz.prog W = .ok (.slice (some ⟨g, 0, none⟩) (l.length + 1) c) w2 ∧ w2.ownsRow w.heap.size 44 3 (.slice (some ⟨g, 0, none⟩) (l.length + 1) c) (l ++ [x]).length (nodsC (l ++ [x])) ∧ W.grownBy w2 u.ownBlock := by
 obtain ⟨i0, hi0, hz0, hz1, hz2⟩ := info_parts infoNd
 obtain ⟨u', w2, h1, h2, h3, _⟩ := run_append_own_at (P := Tryz.prog) (w := W) w.heap.size 41 41 44 i0 (.agg #[.int .i64 0, .int .i64 0, .int .i64 0]) 3 24 Tryz.underlying41 hi0 hz0 hz1 hz2 rfl (by decide) u l.length (nodsC l) h ⟨s, 0, none⟩ 1 1 (nodC x) rfl (by
   intro j v hj
   have e : ((⟨s, 0, none⟩ : Addr).add j) = ⟨s, j, none⟩ := by unfold Addr.add; split <;> simp_all
   rw [e]
   unfold World.cell?
   simp only [hs]
   simpa using hj) (by simp [Value.oneCell']) (by unfold maxLen; omega) (by omega) hz
 rw [← nodsC_snoc] at h2
 obtain ⟨g, c, rfl, _⟩ := row_form3 h2 (by omega)
 exact ⟨g, c, w2, h1, by rw [List.length_append]; exact h2, h3⟩
theorem insertIdx_end {α : Type} (x : α) : ∀ l : List α, l.insertIdx l.length x = l ++ [x]
 | [] => rfl
 | a :: l => by
  rw [List.length_cons, List.insertIdx_succ_cons, insertIdx_end x l]; rfl
theorem bx_grown {W w3 : World} {s : Nat} {o i : Int} {r : Option Nat} (h : Bx W s o i) (hg : W.grownBy w3 r) (hr : r ≠ some s) : Bx w3 s o i :=
 bx_same h (hg.block _ h.lt (fun e => hr e.symm)) hg.size
attribute [-go_sem] Builtin.append_
theorem rroot_any (w : World) (rb : Nat) (v : Value) (l : List Nod) (o i : Int) (h : RefT w rb v l) (hlen : l.length < 1000) :
  Calls Tryz.prog 83 #[.pointer (some ⟨rb, 0, none⟩), slV o i] w fun e w' => e = .returned (.int .i64 (rootA l o i).2) ∧ (∃ u, RefT w' rb u (rootA l o i).1) ∧ OnlyR rb w w' := by
 have hal : Below w.heap.size w (w.alloc (slO o i)) := bal (Below.refl _ _) _
 have HA := hid hal
 have HR := hid h
 have HBX := hid (Bx.fresh w o i)
 unfold rootA
 cases hk : idx l o i with
 | some k =>
  have hat : atI l o i = (k : Int) := by unfold atI; rw [hk]
  have HAT := hid hat
  simp only [Option.isSome_some, if_true]
  have hk0 : (0 : Int) ≤ k := by omega
  clear h hal hk hat
  go_enter Tryz.func83, Tryz.ntmps83
  go_wp2_with (go_at_call 95; with_reducible refine (rat_any _ rb v l o i (HR.out.call HA.out)).mono ?_; rw [HAT.out]; rintro e w1 ⟨rfl, hb1⟩; have HB1 := hid (HA.out.trans (hb1.mono HA.out.size)); clear hb1)
  go_ret
  exact ⟨rfl, ⟨_, HR.out.call HB1.out⟩, .of_below HB1.out⟩
 | none =>
  have hat : atI l o i = -1 := by unfold atI; rw [hk]
  have HAT := hid hat
  simp only [Option.isSome_none, Bool.false_eq_true, if_false]
  rw [insertIdx_end]
  have hrl := (ags h.blk).1
  obtain ⟨a, c, hv⟩ := h.form
  subst hv
  clear h hal hk hat
  go_enter Tryz.func83, Tryz.ntmps83
  go_upto_region 3 with (go_at_call 95; with_reducible refine (rat_any _ rb _ l o i (HR.out.call HA.out)).mono ?_; rw [HAT.out]; rintro e w1 ⟨rfl, hb1⟩; have HB1 := hid (HA.out.trans (hb1.mono HA.out.size)); have HBX1 := hid (HBX.out.call hb1); clear hb1)
  have HB1D := hid HB1.out.drew
  have hdep : ∀ x ∈ l ++ [(⟨o, i, 0⟩ : Nod)], -1000 ≤ x.d ∧ x.d ≤ 1000 := by
   intro x hx
   rcases List.mem_append.1 hx with q | q
   ·exact HR.out.dep x q
   ·simp at q; subst q; simp
  obtain ⟨u, w2, hrun1, hown1, hg1⟩ := copy_run (w := w) (HR.out.call HB1D.out) HB1D.out.size
  have hb2 : Below w.heap.size w w2 := HB1D.out.grown hg1 HB1D.out.size (fun k e => by cases e)
  have hbx2 := bx_grown (HBX1.out.call (Below.refl _ _).drew) hg1 (by simp)
  obtain ⟨g, cc, w3, hrun2, hown2, hg2⟩ := one_run (w := w) w2.heap.size ⟨o, i, 0⟩ (hown1.alloc _) (World.alloc_heap_new w2 _) (by omega) (by simp; exact Nat.le_trans hb2.size (Nat.le_succ _))
  have hb3 : Below w.heap.size w w3 := (bal hb2 _).grown hg2 (by simp; exact Nat.le_trans hb2.size (Nat.le_succ _)) (fun k e => (hown1.lt k e).1)
  have HST := hid (HR.out.store hb3 hown2 (by simp; omega) hdep)
  have hbA : Below w.heap.size w (w1.alloc (.cells #[.int .i64 o, .int .i64 i, .int .i64 0] 44)).drew := (bal HB1.out _).drew
  obtain ⟨u', w2', hrun1', hown1', hg1'⟩ := copy_run (w := w) (HR.out.call hbA) hbA.size
  have hb2' : Below w.heap.size w w2' := hbA.grown hg1' hbA.size (fun k e => by cases e)
  have hnew' : w2'.heap[w1.heap.size]? = some (.cells #[.int .i64 o, .int .i64 i, .int .i64 0] 44) := (hg1'.block _ (by simp) (by simp)).trans (World.alloc_heap_new w1 _)
  obtain ⟨g', cc', w3', hrun2', hown2', hg2'⟩ := one_run (w := w) w1.heap.size ⟨o, i, 0⟩ hown1' hnew' (by omega) hb2'.size
  have hb3' : Below w.heap.size w w3' := hb2'.grown hg2' hb2'.size (fun k e => (hown1'.lt k e).1)
  have HST' := hid (HR.out.store hb3' hown2' (by simp; omega) hdep)
  obtain ⟨r0, rz⟩ := cell_box (HR.out.call HB1.out).blk
  obtain ⟨m0, mz⟩ := cell_box (HR.out.call hb3).blk
  obtain ⟨n0, nz⟩ := cell_box (HR.out.call hb3').blk
  have hrl1 : rb < w1.heap.size := Nat.lt_of_lt_of_le hrl HB1.out.size
  obtain ⟨b0, b1, bl⟩ := bx_all HBX1.out
  obtain ⟨d0, d1, dl⟩ := bx_all hbx2
  clear hbA hown1' hg1' hb2' hnew' hown2' hg2' hb3' hdep
  clear hown1 hg1 hb2 hbx2 hown2 hg2 hb3
  go_region
  all_goals
   go_wp2
   go_ret
   first
   | exact ⟨rfl, ⟨_, HST.out.1⟩, HST.out.2⟩
   | exact ⟨rfl, ⟨_, HST'.out.1⟩, HST'.out.2⟩
theorem nodsC_app (a b : List Nod) : nodsC (a ++ b) = nodsC a ++ nodsC b := by simp [nodsC]
theorem add_cell (g a j : Nat) : ((⟨g, a, none⟩ : Addr).add j) = ⟨g, a + j, none⟩ := by unfold Addr.add; split <;> simp_all
theorem pre_news {W : World} {rb g c n k : Nat} {l : List Nod} (h : RefT W rb (.slice (some ⟨g, 0, none⟩) n c) l) : ∀ j u, (nodsC (l.take k))[j]? = some u → W.cell? ((⟨g, 0, none⟩ : Addr).add j) = some u := by
 intro j u hj
 refine row_news h j u ?_
 have hjl := (lgs hj).1
 have e : nodsC l = nodsC (l.take k) ++ nodsC (l.drop k) := by rw [← nodsC_app, List.take_append_drop]
 rw [e, List.getElem?_append_left hjl]
 exact hj
theorem suf_news {W : World} {rb g c n k : Nat} {l : List Nod} (h : RefT W rb (.slice (some ⟨g, 0, none⟩) n c) l) (hk : k ≤ l.length) : ∀ j u, (nodsC (l.drop k))[j]? = some u → W.cell? ((⟨g, k * 3, none⟩ : Addr).add j) = some u := by
 intro j u hj
 have hlen : (nodsC (l.take k)).length = k * 3 := by rw [nodsC_len, List.length_take]; congr 1; omega
 have := row_news h (k * 3 + j) u (by
  have e : nodsC l = nodsC (l.take k) ++ nodsC (l.drop k) := by rw [← nodsC_app, List.take_append_drop]
  rw [e, List.getElem?_append_right (by omega), hlen, show k * 3 + j - k * 3 = j by omega]
  exact hj)
 rw [add_cell] at this ⊢
 rwa [Nat.zero_add] at this
theorem child_list {l : List Nod} {k : Nat} (x : Nod) (hk : k < l.length) : l.take (k + 1) ++ [x] ++ l.drop (k + 1) = l.insertIdx (k + 1) x := by
 apply List.ext_getElem?
 intro q
 rw [List.append_assoc]
 have h1 : (l.take (k + 1)).length = k + 1 := by rw [List.length_take]; omega
 rcases Nat.lt_trichotomy q (k + 1) with h | h | h
 ·rw [List.getElem?_append_left (by omega), ins_lo h, List.getElem?_take, if_pos h]
 ·subst h
  rw [List.getElem?_append_right (by omega), h1, Nat.sub_self, ins_at (by omega)]
  rfl
 ·rw [List.getElem?_append_right (by omega), h1]
  obtain ⟨r, rfl⟩ : ∃ r, q = r + 1 := ⟨q - 1, by omega⟩
  rw [ins_hi (by omega), show r + 1 - (k + 1) = (r - (k + 1)) + 1 by omega]
  rw [List.singleton_append, List.getElem?_cons_succ, List.getElem?_drop]
  congr 1; omega
attribute [-go_sem] Builtin.append_
theorem rchild_any (w : World) (rb : Nat) (v : Value) (l : List Nod) (o i p j : Int) (h : RefT w rb v l) (hlen : l.length < 1000) (hdp : ∀ x ∈ l, x.d < 1000) :
  Calls Tryz.prog 85 #[.pointer (some ⟨rb, 0, none⟩), slV o i, slV p j] w fun e w' => e = .returned (.int .i64 (childA l o i p j).2) ∧ (∃ u, RefT w' rb u (childA l o i p j).1) ∧ OnlyR rb w w' := by
 have hal : Below w.heap.size w ((w.alloc (slO o i)).alloc (slO p j)) := bal (bal (Below.refl _ _) _) _
 have HA := hid hal
 have HR := hid h
 have HBX := hid (bx2 w o i p j)
 unfold childA
 cases hk : idx l o i with
 | none =>
  have hat : atI l o i = -1 := by unfold atI; rw [hk]
  have HAT := hid hat
  simp only
  clear h hal hk hat
  go_enter Tryz.func85, Tryz.ntmps85
  go_wp2_with (go_at_call 95; with_reducible refine (rat_any _ rb v l o i (HR.out.call HA.out)).mono ?_; rw [HAT.out]; rintro e w1 ⟨rfl, hb1⟩)
  go_ret
  have hb := HA.out.trans (hb1.mono HA.out.size)
  exact ⟨rfl, ⟨_, HR.out.call hb⟩, .of_below hb⟩
 | some k =>
  obtain ⟨x, hx, hxs⟩ := idx_some hk
  have hkl := (lgs hx).1
  have hat : atI l o i = (k : Int) := by unfold atI; rw [hk]
  have HAT := hid hat
  have hle := h.le
  have hxd : ((l[k]?).map Nod.d).getD 0 = x.d := by rw [hx]; rfl
  simp only [hxd]
  have hkx : ¬ (k : Int) < 0 := by omega
  have hrl := (ags h.blk).1
  cases hk2 : idx l p j with
  | some k2 =>
   have hat2 : atI l p j = (k2 : Int) := by unfold atI; rw [hk2]
   have HAT2 := hid hat2
   simp only [Option.isSome_some, if_true]
   have hk2x : (0 : Int) ≤ k2 := by omega
   clear h hal hk hat hx hk2 hat2
   go_enter Tryz.func85, Tryz.ntmps85
   go_wp2_with (first
    | (go_at_call 95; with_reducible refine (rat_any _ rb v l p j (HR.out.call HB1.out)).mono ?_; rw [HAT2.out]; rintro e w2 ⟨rfl, hb2⟩; have HB2 := hid (HB1.out.trans (hb2.mono HB1.out.size)))
    | (go_at_call 95; with_reducible refine (rat_any _ rb v l o i (HR.out.call HA.out)).mono ?_; rw [HAT.out]; rintro e w1 ⟨rfl, hb1⟩; have HB1 := hid (HA.out.trans (hb1.mono HA.out.size)); obtain ⟨b0, b1, bz, bl, bb⟩ := HBX.out.2.call hb1; clear hb1 bb bz))
   go_ret
   exact ⟨rfl, ⟨_, HR.out.call HB2.out⟩, .of_below HB2.out⟩
  | none =>
   have hat2 : atI l p j = -1 := by unfold atI; rw [hk2]
   have HAT2 := hid hat2
   simp only [Option.isSome_none, Bool.false_eq_true, if_false]
   obtain ⟨i0, hi0, hz0, hz1, hz2⟩ := info_parts infoNd
   have HI0 := hid hi0
   obtain ⟨g, c, rfl, hg, hgr, hc⟩ := h.getg (by omega)
   have HX := hid hx
   have hdx := h.dep x (List.mem_of_getElem? hx)
   have hdx2 := hdp x (List.mem_of_getElem? hx)
   have hwr := IntWalk.i64_in (n := x.d + 1) (by omega)
   have HTL := hid (show (nodsC (l.take (k + 1))).length = (k + 1) * 3 ∧ (nodsC (l.drop (k + 1))).length = (l.length - (k + 1)) * 3 ∧ k < l.length ∧ l.length < 1000 from ⟨by rw [nodsC_len, List.length_take]; congr 1; omega, by rw [nodsC_len, List.length_drop], hkl, hlen⟩)
   have hk1 : (0 : Int) ≤ (k : Int) + 1 := by omega
   have hk2' : (k : Int) + 1 ≤ l.length := by omega
   have hcap : l.length ≤ c := by
    rcases h.row.2 with ⟨q, _⟩ | ⟨g', cap, cur, q, _, _, q4, _⟩
    ·cases q
    ·cases q; exact q4
   have hcap2 : (k : Int) + 1 ≤ c := by omega
   clear h hal hk hat hx hk2 hat2 hc hi0
   go_enter Tryz.func85, Tryz.ntmps85
   go_upto_region 7 with (first
    | (go_at_call 95; with_reducible refine (rat_any _ rb _ l p j (HR.out.call HB1.out)).mono ?_; rw [HAT2.out]; rintro e w2 ⟨rfl, hb2⟩; have HB2 := hid (HB1.out.trans (hb2.mono HB1.out.size)); have HBX2 := hid ((HBX.out.2.call HB1A.out).call hb2); clear hb2)
    | (go_at_call 95; with_reducible refine (rat_any _ rb _ l o i (HR.out.call HA.out)).mono ?_; rw [HAT.out]; rintro e w1 ⟨rfl, hb1⟩; have HB1A := hid hb1; have HB1 := hid (HA.out.trans (hb1.mono HA.out.size)); obtain ⟨b0, b1, bz, bl, bb⟩ := HBX.out.2.call hb1; clear hb1 bb bz))
   have HR2 := hid (HR.out.call HB2.out)
   obtain ⟨r0, rz⟩ := cell_box HR2.out.blk
   clear b0 b1
   have HCB := hid (pre_news (k := k + 1) HR2.out)
   go_upto_region 8 with (at_builtin; refine wpList_append_own _ rfl _ _ 41 rfl w.heap.size 44 i0 (.agg #[.int .i64 0, .int .i64 0, .int .i64 0]) 3 24 Tryz.underlying41 HI0.out hz0 hz1 hz2 rfl (by decide) (.slice none 0 0) 0 [] rfl (World.ownsRow_nil _ _ _ _) ⟨g, 0, none⟩ (k + 1) c (nodsC (l.take (k + 1))) rfl HTL.out.1 HCB.out nods_one (by unfold maxLen; omega) (by omega) HB2.out.size ?_; intro u' w3 hown hgrow _; rw [Nat.zero_add, List.nil_append] at hown; obtain ⟨g3, c3, rfl, hg3⟩ := row_form3 hown (by omega); have HOW := hid hown; have HGR := hid hgrow; clear hown hgrow)
   have hb3 : Below w.heap.size w w3 := HB2.out.grown HGR.out HB2.out.size (fun k e => by cases e)
   have hR3 := HR.out.call hb3
   obtain ⟨_, _, a2⟩ := nodsC_get l k x HX.out
   have x2 := row_news hR3 _ _ a2
   rw [add_cell, Nat.zero_add] at x2
   have hbx3 := bx_grown HBX2.out HGR.out (by simp [Value.ownBlock])
   have htl : (l.take (k + 1)).length = k + 1 := by rw [List.length_take]; have := HTL.out.2.2.1; omega
   have hown3 : ((w3.alloc (.cells #[.int .i64 p, .int .i64 j, .int .i64 (x.d + 1)] 44)).drew).ownsRow w.heap.size 44 3 (.slice (some ⟨g3, 0, none⟩) (k + 1) c3) (l.take (k + 1)).length (nodsC (l.take (k + 1))) := by
    rw [htl]
    exact HOW.out.alloc _
   have hbA : Below w.heap.size w ((w3.alloc (.cells #[.int .i64 p, .int .i64 j, .int .i64 (x.d + 1)] 44)).drew) := (bal hb3 _).drew
   obtain ⟨g4, c4, w4, hrun, hown4, hgr4⟩ := one_run (w := w) w3.heap.size ⟨p, j, x.d + 1⟩ hown3 (World.alloc_heap_new w3 _) (by rw [htl]; have := HTL.out.2.2; omega) hbA.size
   have hb4 : Below w.heap.size w w4 := hbA.grown hgr4 hbA.size (fun k e => (hown3.lt k e).1)
   have HR4 := hid (HR.out.call hb4)
   have HB4 := hid hb4
   have HOW4 := hid hown4
   have HSF := hid (suf_news (k := k + 1) HR4.out (by have := HTL.out.2.2.1; omega))
   obtain ⟨r3, rz3⟩ := cell_box hR3.blk
   obtain ⟨r4, rz4⟩ := cell_box HR4.out.blk
   obtain ⟨b0, b1, bl3⟩ := bx_all hbx3
   rw [htl] at hrun
   have hz3 : rb < w3.heap.size := Nat.lt_of_lt_of_le hrl hb3.size
   have hz3' : g < w3.heap.size := Nat.lt_of_lt_of_le hg hb3.size
   clear r0 rz hb3 hR3 hbx3 hown3 hbA hown4 hgr4 hb4 a2 htl
   go_region
   all_goals
    have htl : (l.take (k + 1) ++ [(⟨p, j, x.d + 1⟩ : Nod)]).length = k + 1 + 1 := by rw [List.length_append, List.length_take]; have := HTL.out.2.2.1; simp; omega
    have hown4 := HOW4.out
    have htk : (l.take (k + 1)).length = k + 1 := by rw [List.length_take]; have := HTL.out.2.2.1; omega
    rw [htl, htk] at hown4
    clear htk
    have HOW5 := hid hown4
    clear hown4
    have hsuf : ∃ u w5, (Builtin.append_ #[41, 41] 41 #[.slice (some ⟨g4, 0, none⟩) (k + 1 + 1) c4, if c = k + 1 then .slice (some ⟨g, 0, none⟩) (l.length - (k + 1)) 0 else .slice (some ⟨g, (k + 1) * 3, none⟩) (l.length - (k + 1)) (c - (k + 1))]).run Tryz.prog w4 = .ok u w5 ∧ w5.ownsRow w.heap.size 44 3 u (k + 1 + 1 + (l.length - (k + 1))) (nodsC (l.take (k + 1) ++ [(⟨p, j, x.d + 1⟩ : Nod)]) ++ nodsC (l.drop (k + 1))) ∧ w4.grownBy w5 (some g4) := by
     split
     ·rename_i hcc
      have hl0 : l.length - (k + 1) = 0 := by omega
      have hdr : l.drop (k + 1) = [] := List.drop_eq_nil_iff.2 (by omega)
      rw [hl0, hdr]
      obtain ⟨u, w5, q1, q2, q3, _⟩ := run_append_own_at (P := Tryz.prog) (w := w4) w.heap.size 41 41 44 i0 (.agg #[.int .i64 0, .int .i64 0, .int .i64 0]) 3 24 Tryz.underlying41 HI0.out hz0 hz1 hz2 rfl (by decide) (.slice (some ⟨g4, 0, none⟩) (k + 1 + 1) c4) (k + 1 + 1) _ HOW5.out ⟨g, 0, none⟩ 0 0 (nodsC []) rfl (fun j u hj => by simp [nodsC] at hj) nods_one (by unfold maxLen; omega) (by omega) HB4.out.size
      exact ⟨u, w5, q1, q2, q3⟩
     ·obtain ⟨u, w5, q1, q2, q3, _⟩ := run_append_own_at (P := Tryz.prog) (w := w4) w.heap.size 41 41 44 i0 (.agg #[.int .i64 0, .int .i64 0, .int .i64 0]) 3 24 Tryz.underlying41 HI0.out hz0 hz1 hz2 rfl (by decide) (.slice (some ⟨g4, 0, none⟩) (k + 1 + 1) c4) (k + 1 + 1) _ HOW5.out ⟨g, (k + 1) * 3, none⟩ (l.length - (k + 1)) (c - (k + 1)) (nodsC (l.drop (k + 1))) HTL.out.2.1 HSF.out nods_one (by unfold maxLen; omega) (by omega) HB4.out.size
      exact ⟨u, w5, q1, q2, q3⟩
    obtain ⟨u, w5, hrun5, hown5, hgr5⟩ := hsuf
    have hb5 : Below w.heap.size w w5 := HB4.out.grown hgr5 HB4.out.size (fun k e => by cases e; exact (HOW5.out.lt _ rfl).1)
    rw [← nodsC_app, child_list _ HTL.out.2.2.1] at hown5
    have hlen5 : (l.insertIdx (k + 1) (⟨p, j, x.d + 1⟩ : Nod)).length = k + 1 + 1 + (l.length - (k + 1)) := by
     rw [List.length_insertIdx]; split <;> omega
    obtain ⟨g5, c5, hu5, _⟩ := row_form3 hown5 (by omega)
    subst hu5
    obtain ⟨r5, rz5⟩ := cell_box (HR.out.call hb5).blk
    have HST := hid (HR.out.store hb5 (by rw [hlen5]; exact hown5) (by omega) (by
     intro y hy
     rcases List.mem_insertIdx (by omega) |>.1 hy with q | q
     ·subst q; simp; omega
     ·exact HR.out.dep y q))
    clear htl hown5 hgr5 hb5 hlen5
    by_cases hcc : c = k + 1
    ·rw [if_pos hcc] at hrun5
     go_wp2
     go_ret
     exact ⟨rfl, ⟨_, HST.out.1⟩, HST.out.2⟩
    ·rw [if_neg hcc] at hrun5
     go_wp2
     go_ret
     exact ⟨rfl, ⟨_, HST.out.1⟩, HST.out.2⟩
def RK (rb : Nat) (v : Value) (k : Nat) : Prop := k = rb ∨ KV v k
theorem RefT.kept {W W' : World} {rb : Nat} {v : Value} {l : List Nod} (h : RefT W rb v l) (hs : ∀ k, RK rb v k → W'.heap[k]? = W.heap[k]?) : RefT W' rb v l :=
 { h with
  blk := (hs rb (.inl rfl)).trans h.blk
  row := own_block h.row fun g hg => hs g (.inr hg) }
end
section
namespace HdS
open TabS (Cp Sn zC mayC sizS getR getN Two Pr FootP foot_ltP foot_ltR SameS AddRel addSR setN setM rowsS hasS)
theorem two_turned {W w w' : World} {b base : Nat} {tv : Value} {L : List Sn} {rb rbase : Nat} {v : Value} {M : List Sn} {S C T : Nat → Prop} (h : Two W w b base tv L rb rbase v M S) (o1 : w'.os = w.os) (o2 : w'.tape = w.tape) (o3 : w'.output = w.output) (hs : w.heap.size ≤ w'.heap.size) (hC : ∀ k, C k → S k ∧ W.heap.size ≤ k) (hb : ∀ k, k < w.heap.size → ¬ C k → w'.heap[k]? = w.heap[k]?) (hT : ∀ k, T k → k < w'.heap.size ∧ (S k ∨ w.heap.size ≤ k)) : Two W w' b base tv L rb rbase v M T := by
 refine ⟨h.pk.of hs (fun k q => hb k (foot_ltP h.pk q) (fun s => (h.bs k (hC k s).1).2.1 q)), h.rf.of hs (fun k q => hb k (foot_ltR h.rf q) (fun s => (h.bs k (hC k s).1).2.2 q)), h.lo, h.lr, ⟨o1.trans h.bl.os, o2.trans h.bl.tape, o3.trans h.bl.output, Nat.le_trans h.bl.size hs, fun k hk => (hb k (Nat.lt_of_lt_of_le hk h.bl.size) (fun s => by have := (hC k s).2; omega)).trans (h.bl.block k hk)⟩, h.ap, fun k hk => ?_⟩
 obtain ⟨h1, h2⟩ := hT k hk
 refine ⟨h1, fun p => ?_, fun p => ?_⟩
 ·rcases h2 with s | s
  ·exact (h.bs k s).2.1 p
  ·have := foot_ltP h.pk p; omega
 ·rcases h2 with s | s
  ·exact (h.bs k s).2.2 p
  ·have := foot_ltR h.rf p; omega
def Ft (b m : Nat) (ps : List Nat) (rb : Nat) (u : Value) (K : Nat → Prop) (k : Nat) : Prop := foot b m ps k ∨ RK rb u k ∨ K k
structure BoAt (W w : World) (sb srb tb m n trb : Nat) (L M : List Sn) (l l2 : List Nod) (K : Nat → Prop) (ps : List Nat) (f : Int → Int → Option Nat) (u : Value) : Prop where
 tr : TreeAt w W.heap.size tb m n ps l f
 rf : RefT w trb u l2
 lo : W.heap.size ≤ trb
 pr : Pr W w sb srb (Ft tb m ps trb u K) L M
 ap : ∀ k, RK trb u k → ¬ foot tb m ps k
 bs : ∀ k, K k → ¬ foot tb m ps k ∧ ¬ RK trb u k
def Bo (W w : World) (sb srb tb m n trb : Nat) (L M : List Sn) (l l2 : List Nod) (K : Nat → Prop) : Prop := ∃ ps f u, BoAt W w sb srb tb m n trb L M l l2 K ps f u
theorem BoAt.slots {W w w' : World} {sb srb tb m n trb : Nat} {L M L' M' : List Sn} {l l2 : List Nod} {K : Nat → Prop} {ps : List Nat} {f : Int → Int → Option Nat} {u : Value} (h : BoAt W w sb srb tb m n trb L M l l2 K ps f u) (hS : Pr W w' sb srb (Ft tb m ps trb u K) L' M') (hk : TabS.SameK (Ft tb m ps trb u K) w w') : Bo W w' sb srb tb m n trb L' M' l l2 K ∧ SameK K w w' :=
 ⟨⟨ps, f, u, h.tr.of_blocks (fun k q => hk k (.inl q)), h.rf.kept (fun k q => hk k (.inr (.inl q))), h.lo, hS, h.ap, h.bs⟩, fun k q => hk k (.inr (.inr q))⟩
theorem BoAt.ltK {W w : World} {sb srb tb m n trb : Nat} {L M : List Sn} {l l2 : List Nod} {K : Nat → Prop} {ps : List Nat} {f : Int → Int → Option Nat} {u : Value} (h : BoAt W w sb srb tb m n trb L M l l2 K ps f u) {k : Nat} (hk : Ft tb m ps trb u K k) : k < w.heap.size := h.pr.lt hk
theorem BoAt.tree {W w w' : World} {sb srb tb m n n' trb : Nat} {L M : List Sn} {l l2 l' : List Nod} {K : Nat → Prop} {ps ps' : List Nat} {f f' : Int → Int → Option Nat} {u : Value} (h : BoAt W w sb srb tb m n trb L M l l2 K ps f u) (hT : TreeAt w' W.heap.size tb m n' ps' l' f') (hO : TOnly w w' tb m ps ps') : Bo W w' sb srb tb m n' trb L M l' l2 K ∧ SameK K w w' := by
 have hr : ∀ k, RK trb u k → w'.heap[k]? = w.heap[k]? := fun k q => hO.block k (h.ltK (.inr (.inl q))) (h.ap k q)
 have hK : SameK K w w' := fun k q => hO.block k (h.ltK (.inr (.inr q))) (h.bs k q).1
 have hf : ∀ k, k < w.heap.size → ¬ foot tb m ps k → ¬ foot tb m ps' k := fun k h1 h2 h3 => h2 (hO.foot k h1 h3)
 obtain ⟨base, tv, rbase, v, hTw⟩ := h.pr
 refine ⟨⟨ps', f', u, hT, h.rf.kept hr, h.lo, ⟨base, tv, rbase, v, two_turned (C := foot tb m ps) hTw hO.os hO.tape hO.output hO.size (fun k q => ⟨.inl q, h.tr.ge q⟩) hO.block (fun k q => ?_)⟩, fun k q => hf k (h.ltK (.inr (.inl q))) (h.ap k q), fun k q => ⟨hf k (h.ltK (.inr (.inr q))) (h.bs k q).1, (h.bs k q).2⟩⟩, hK⟩
 rcases q with q | q
 ·refine ⟨hT.lt q, ?_⟩
  by_cases hk : k < w.heap.size
  ·exact .inl (.inl (hO.foot k hk q))
  ·exact .inr (by omega)
 ·exact ⟨Nat.lt_of_lt_of_le (h.ltK (.inr q)) hO.size, .inl (.inr q)⟩
theorem BoAt.ref {W w w' : World} {sb srb tb m n trb : Nat} {L M : List Sn} {l l2 l2' : List Nod} {K : Nat → Prop} {ps : List Nat} {f : Int → Int → Option Nat} {u u' : Value} (h : BoAt W w sb srb tb m n trb L M l l2 K ps f u) (hR : RefT w' trb u' l2') (hO : OnlyR trb w w') : Bo W w' sb srb tb m n trb L M l l2' K ∧ SameK K w w' := by
 have hrb := h.ltK (.inr (.inl (.inl rfl)))
 have hown : ∀ g, u'.ownBlock = some g → u.ownBlock = some g ∨ w.heap.size ≤ g := fun g q => by
  rcases hO.own hrb g ⟨u', (cell_box hR.blk).1, q⟩ with ⟨v, e, z⟩ | z
  ·rw [(cell_box h.rf.blk).1] at e
   cases e
   exact .inl z
  ·exact .inr z
 have hK : SameK K w w' := fun k q => hO.block k (h.ltK (.inr (.inr q))) (fun e => (h.bs k q).2 (.inl e))
 have hne : ∀ k, foot tb m ps k → k ≠ trb := fun k q e => h.ap trb (.inl rfl) (e ▸ q)
 obtain ⟨base, tv, rbase, v, hTw⟩ := h.pr
 refine ⟨⟨ps, f, u', h.tr.of_blocks (fun k q => hO.block k (h.tr.lt q) (hne k q)), hR, h.lo, ⟨base, tv, rbase, v, two_turned (C := fun k => k = trb) hTw hO.os hO.tape hO.output hO.size (fun k q => ⟨.inr (.inl (.inl q)), q ▸ h.lo⟩) hO.block (fun k q => ?_)⟩, fun k q => ?_, fun k q => ⟨(h.bs k q).1, fun z => ?_⟩⟩, hK⟩
 ·rcases q with q | (q | q) | q
  ·exact ⟨Nat.lt_of_lt_of_le (h.tr.lt q) hO.size, .inl (.inl q)⟩
  ·exact ⟨q ▸ Nat.lt_of_lt_of_le hrb hO.size, .inl (.inr (.inl (.inl q)))⟩
  ·refine ⟨(hR.row.lt k q).2, ?_⟩
   rcases hown k q with z | z
   ·exact .inl (.inr (.inl (.inr z)))
   ·exact .inr z
  ·exact ⟨Nat.lt_of_lt_of_le (h.ltK (.inr (.inr q))) hO.size, .inl (.inr (.inr q))⟩
 ·rcases q with q | q
  ·exact h.ap k (.inl q)
  ·rcases hown k q with z | z
   ·exact h.ap k (.inr z)
   ·exact fun p => by have := h.tr.lt p; omega
 ·rcases z with z | z
  ·exact (h.bs k q).2 (.inl z)
  ·rcases hown k z with y | y
   ·exact (h.bs k q).2 (.inr y)
   ·have := h.ltK (.inr (.inr q)); omega
theorem Bo.call {W w w' : World} {sb srb tb m n trb : Nat} {L M : List Sn} {l l2 : List Nod} {K : Nat → Prop} (h : Bo W w sb srb tb m n trb L M l l2 K) (hb : Below w.heap.size w w') : Bo W w' sb srb tb m n trb L M l l2 K ∧ SameK K w w' := by
 obtain ⟨ps, f, u, h⟩ := h
 exact h.slots (h.pr.call hb) (fun k q => hb.block k (h.ltK q))
theorem Bo.below {W w : World} {sb srb tb m n trb : Nat} {L M : List Sn} {l l2 : List Nod} {K : Nat → Prop} (h : Bo W w sb srb tb m n trb L M l l2 K) : Below W.heap.size W w := by
 obtain ⟨ps, f, u, h⟩ := h
 exact h.pr.below
theorem Bo.mono {W w : World} {sb srb tb m n n' trb : Nat} {L M : List Sn} {l l2 : List Nod} {K : Nat → Prop} (h : Bo W w sb srb tb m n trb L M l l2 K) (hn : n ≤ n') : Bo W w sb srb tb m n' trb L M l l2 K := by
 obtain ⟨ps, f, u, h⟩ := h
 exact ⟨ps, f, u, h.tr.mono hn, h.rf, h.lo, h.pr, h.ap, h.bs⟩
end HdS
end
section
namespace HdS
open TabS (Cp Sn zC mayC sizS getR getN Two Pr FootP foot_ltP foot_ltR SameS AddRel addSR setN setM rowsS hasS dropSR dropSL heldA hdsC)
structure Sh where
 sb : Nat
 srb : Nat
 tb : Nat
 m : Nat
 trb : Nat
abbrev BoS (W : World) (s : Sh) (n : Nat) (L M : List Sn) (l l2 : List Nod) (K : Nat → Prop) (w : World) : Prop := Bo W w s.sb s.srb s.tb s.m n s.trb L M l l2 K
variable {W w : World} {s : Sh} {n : Nat} {L M : List Sn} {l l2 : List Nod} {K : Nat → Prop}
theorem Bo.sl {F : FuncId} {args : Array Value} {Q : Ending → List Sn → List Sn → Prop} (h : BoS W s n L M l l2 K w) (hc : ∀ S : Nat → Prop, Pr W w s.sb s.srb S L M → Calls Tryz.prog F args w fun e w' => ∃ L' M', Q e L' M' ∧ Pr W w' s.sb s.srb S L' M' ∧ TabS.SameK S w w') :
  Calls Tryz.prog F args w fun e w' => ∃ L' M', Q e L' M' ∧ BoS W s n L' M' l l2 K w' ∧ SameK K w w' := by
 obtain ⟨ps, f, u, h⟩ := h
 refine (hc _ h.pr).mono ?_
 rintro e w' ⟨L', M', hq, hS, hk⟩
 exact ⟨L', M', hq, h.slots hS hk⟩
theorem Bo.tree {F : FuncId} {args : Array Value} {n' : Nat} {l' : List Nod} {r : Value} (h : BoS W s n L M l l2 K w) (hc : ∀ ps f, TreeAt w W.heap.size s.tb s.m n ps l f → Calls Tryz.prog F args w fun e w' => e = .returned r ∧ Left w w' W.heap.size s.tb s.m n' ps l') :
  Calls Tryz.prog F args w fun e w' => e = .returned r ∧ BoS W s n' L M l' l2 K w' ∧ SameK K w w' := by
 obtain ⟨ps, f, u, h⟩ := h
 refine (hc ps f h.tr).mono ?_
 rintro e w' ⟨he, ps', f', hT, hO⟩
 exact ⟨he, h.tree hT hO⟩
theorem Bo.rf {F : FuncId} {args : Array Value} {l2' : List Nod} {r : Value} (h : BoS W s n L M l l2 K w) (hc : ∀ v, RefT w s.trb v l2 → Calls Tryz.prog F args w fun e w' => e = .returned r ∧ (∃ u, RefT w' s.trb u l2') ∧ OnlyR s.trb w w') :
  Calls Tryz.prog F args w fun e w' => e = .returned r ∧ BoS W s n L M l l2' K w' ∧ SameK K w w' := by
 obtain ⟨ps, f, u, h⟩ := h
 refine (hc u h.rf).mono ?_
 rintro e w' ⟨he, ⟨u', hR⟩, hO⟩
 exact ⟨he, h.ref hR hO⟩
theorem Bo.set (h : BoS W s n L M l l2 K w) (hT0 : CX.TabG W) (id ix : Int) (c : Cp) (he : c.e ≤ 9223372036854775807) :
  Calls Tryz.prog 71 #[.pointer (some ⟨s.sb, 0, none⟩), .agg #[.int .i64 id, .int .i64 ix], c.V] w fun e w' => e = .returned (.int .i64 (setN L id ix c)) ∧ BoS W s n (setM L id ix c) M l l2 K w' ∧ SameK K w w' := by
 refine (h.sl (Q := fun e L' M' => e = .returned (.int .i64 (setN L id ix c)) ∧ L' = setM L id ix c ∧ M' = M) (fun S hp => (hp.setP (hT0.call hp.below) id ix c he).mono fun e w' ⟨he, hS, hk⟩ => ⟨_, _, ⟨he, rfl, rfl⟩, hS, hk⟩)).mono ?_
 rintro e w' ⟨_, _, ⟨he, rfl, rfl⟩, h1, h2⟩
 exact ⟨he, h1, h2⟩
theorem Bo.rset (h : BoS W s n L M l l2 K w) (hA : Asc (rowsS M)) (hl : M.length < 1000000) (id ix : Int) (c : Cp) :
  Calls Tryz.prog 82 #[.pointer (some ⟨s.srb, 0, none⟩), .agg #[.int .i64 id, .int .i64 ix], c.V] w fun e w' => e = .returned (.int .i64 (setN M id ix c)) ∧ BoS W s n L (setM M id ix c) l l2 K w' ∧ SameK K w w' := by
 refine (h.sl (Q := fun e L' M' => e = .returned (.int .i64 (setN M id ix c)) ∧ L' = L ∧ M' = setM M id ix c) (fun S hp => (hp.rset hA hl id ix c).mono fun e w' ⟨he, hS, hk⟩ => ⟨_, _, ⟨he, rfl, rfl⟩, hS, hk⟩)).mono ?_
 rintro e w' ⟨_, _, ⟨he, rfl, rfl⟩, h1, h2⟩
 exact ⟨he, h1, h2⟩
theorem Bo.add (h : BoS W s n L M l l2 K w) (hl : L.length < 1000000) (id k : Int) :
  Calls Tryz.prog 75 #[.pointer (some ⟨s.sb, 0, none⟩), .int .i64 id, .int .i64 k] w fun e w' => e = .returned (.int .i64 (addSR L id k)) ∧ ∃ L', AddRel L id k L' ∧ BoS W s n L' M l l2 K w' ∧ SameK K w w' := by
 refine (h.sl (Q := fun e L' M' => e = .returned (.int .i64 (addSR L id k)) ∧ AddRel L id k L' ∧ M' = M) (fun S hp => (hp.addP hl id k).mono fun e w' ⟨he, L', hr, hS, hk⟩ => ⟨L', _, ⟨he, hr, rfl⟩, hS, hk⟩)).mono ?_
 rintro e w' ⟨L', _, ⟨he, hr, rfl⟩, h1, h2⟩
 exact ⟨he, L', hr, h1, h2⟩
theorem Bo.radd (h : BoS W s n L M l l2 K w) (hA : Asc (rowsS M)) (hl : M.length < 1000000) (id k : Int) :
  Calls Tryz.prog 32 #[.pointer (some ⟨s.srb, 0, none⟩), .int .i64 id, .int .i64 k] w fun e w' => e = .returned (.int .i64 (addSR M id k)) ∧ ∃ M', AddRel M id k M' ∧ BoS W s n L M' l l2 K w' ∧ SameK K w w' := by
 refine (h.sl (Q := fun e L' M' => e = .returned (.int .i64 (addSR M id k)) ∧ AddRel M id k M' ∧ L' = L) (fun S hp => (hp.addR hA hl id k).mono fun e w' ⟨he, M', hr, hS, hk⟩ => ⟨_, M', ⟨he, hr, rfl⟩, hS, hk⟩)).mono ?_
 rintro e w' ⟨_, M', ⟨he, hr, rfl⟩, h1, h2⟩
 exact ⟨he, M', hr, h1, h2⟩
theorem Bo.drop (h : BoS W s n L M l l2 K w) (id : Int) :
  Calls Tryz.prog 94 #[.pointer (some ⟨s.sb, 0, none⟩), .int .i64 id] w fun e w' => e = .returned (.int .i64 (dropSR L id)) ∧ BoS W s n (dropSL L id) M l l2 K w' ∧ SameK K w w' := by
 refine (h.sl (Q := fun e L' M' => e = .returned (.int .i64 (dropSR L id)) ∧ L' = dropSL L id ∧ M' = M) (fun S hp => (hp.dropP id).mono fun e w' ⟨he, hS, hk⟩ => ⟨_, _, ⟨he, rfl, rfl⟩, hS, hk⟩)).mono ?_
 rintro e w' ⟨_, _, ⟨he, rfl, rfl⟩, h1, h2⟩
 exact ⟨he, h1, h2⟩
theorem Bo.rdrop (h : BoS W s n L M l l2 K w) (hA : Asc (rowsS M)) (hl : M.length < 1000000) (id : Int) :
  Calls Tryz.prog 46 #[.pointer (some ⟨s.srb, 0, none⟩), .int .i64 id] w fun e w' => e = .returned (.int .i64 (dropSR M id)) ∧ BoS W s n L (dropSL M id) l l2 K w' ∧ SameK K w w' := by
 refine (h.sl (Q := fun e L' M' => e = .returned (.int .i64 (dropSR M id)) ∧ L' = L ∧ M' = dropSL M id) (fun S hp => (hp.dropRf hA hl id).mono fun e w' ⟨he, hS, hk⟩ => ⟨_, _, ⟨he, rfl, rfl⟩, hS, hk⟩)).mono ?_
 rintro e w' ⟨_, _, ⟨he, rfl, rfl⟩, h1, h2⟩
 exact ⟨he, h1, h2⟩
theorem Bo.get (h : BoS W s n L M l l2 K w) (id ix : Int) :
  Calls Tryz.prog 66 #[.pointer (some ⟨s.sb, 0, none⟩), .agg #[.int .i64 id, .int .i64 ix]] w fun e w' => e = .returned (.tuple #[((getR L id ix).getD zC).V, .int .i64 (getN (getR L id ix))]) ∧ Below w.heap.size w w' := by
 obtain ⟨ps, f, u, h⟩ := h
 exact h.pr.getP id ix
theorem Bo.rget (h : BoS W s n L M l l2 K w) (hA : Asc (rowsS M)) (hl : M.length < 1000000) (id ix : Int) :
  Calls Tryz.prog 47 #[.pointer (some ⟨s.srb, 0, none⟩), .agg #[.int .i64 id, .int .i64 ix]] w fun e w' => e = .returned (.tuple #[((getR M id ix).getD zC).V, .int .i64 (getN (getR M id ix))]) ∧ Below w.heap.size w w' := by
 obtain ⟨ps, f, u, h⟩ := h
 exact h.pr.rget hA hl id ix
theorem Bo.rhas (h : BoS W s n L M l l2 K w) (hA : Asc (rowsS M)) (hl : M.length < 1000000) (id ix : Int) :
  Calls Tryz.prog 79 #[.pointer (some ⟨s.srb, 0, none⟩), .agg #[.int .i64 id, .int .i64 ix]] w fun e w' => e = .returned (.bool (getR M id ix).isSome) ∧ Below w.heap.size w w' := by
 obtain ⟨ps, f, u, h⟩ := h
 obtain ⟨base, tv, rbase, v, hT⟩ := h.pr
 rcases TabS.slot_orR hA id ix with ⟨hn, e⟩ | ⟨x, i, c, hF, rfl, hc, e⟩
 ·rw [e]
  exact TabS.rhas_no w s.srb rbase v M id ix hT.rf hl hn
 ·rw [e]
  exact TabS.rhas_yes w s.srb rbase v M id i _ x hT.rf hl hF (lgs hc).1
theorem Bo.used (h : BoS W s n L M l l2 K w) (hl : L.length < 1000000) :
  Calls Tryz.prog 52 #[.pointer (some ⟨s.sb, 0, none⟩)] w fun e w' => ∃ r, e = .returned r ∧ w'.ownsRow w.heap.size 46 10 r (heldA L).length (hdsC (heldA L)) ∧ Below w.heap.size w w' := by
 obtain ⟨ps, f, u, h⟩ := h
 exact h.pr.used hl
theorem Bo.rused (h : BoS W s n L M l l2 K w) (hl : M.length < 1000000) :
  Calls Tryz.prog 48 #[.pointer (some ⟨s.srb, 0, none⟩)] w fun e w' => ∃ r, e = .returned r ∧ w'.ownsRow w.heap.size 46 10 r (heldA M).length (hdsC (heldA M)) ∧ Below w.heap.size w w' := by
 obtain ⟨ps, f, u, h⟩ := h
 exact h.pr.rused hl
theorem Bo.root (h : BoS W s n L M l l2 K w) (o i : Int) (ho : InS o) (hi : InS i) (hn : n < 1000000) :
  Calls Tryz.prog 77 #[.pointer (some ⟨s.tb, 0, none⟩), slV o i] w fun e w' => e = .returned (.int .i64 (rootA l o i).2) ∧ BoS W s (n + 1) L M (rootA l o i).1 l2 K w' ∧ SameK K w w' :=
 h.tree fun ps f hT => root_any w W.heap.size s.tb s.m n ps l f o i ho hi hT (by unfold maxLen; omega) h.below.size
theorem Bo.child (h : BoS W s n L M l l2 K w) (o i p j : Int) (ho : InS o) (hi : InS i) (hp : InS p) (hj : InS j) (hn : n < 1000000) :
  Calls Tryz.prog 84 #[.pointer (some ⟨s.tb, 0, none⟩), slV o i, slV p j] w fun e w' => e = .returned (.int .i64 (childA l o i p j).2) ∧ BoS W s (n + 1) L M (childA l o i p j).1 l2 K w' ∧ SameK K w w' :=
 h.tree fun ps f hT => child_any w W.heap.size s.tb s.m n ps l f o i p j ho hi hp hj hT hn h.below.size
theorem Bo.remove (h : BoS W s n L M l l2 K w) (o i : Int) (ho : InS o) (hi : InS i) (hn : n < 1000000) :
  Calls Tryz.prog 72 #[.pointer (some ⟨s.tb, 0, none⟩), slV o i] w fun e w' => e = .returned (.int .i64 (removeA l o i).2) ∧ BoS W s (n + 1) L M (removeA l o i).1 l2 K w' ∧ SameK K w w' :=
 h.tree fun ps f hT => remove_any w W.heap.size s.tb s.m n ps l f o i ho hi hT hn
theorem Bo.swap (h : BoS W s n L M l l2 K w) (o i p j : Int) (ho : InS o) (hi : InS i) (hp : InS p) (hj : InS j) (hn : n < 1000000) :
  Calls Tryz.prog 91 #[.pointer (some ⟨s.tb, 0, none⟩), slV o i, slV p j] w fun e w' => e = .returned (.int .i64 0) ∧ BoS W s (n + 2) L M (swapA l o i p j) l2 K w' ∧ SameK K w w' :=
 h.tree fun ps f hT => swap_any w W.heap.size s.tb s.m n ps l f o i p j ho hi hp hj hT hn
theorem Bo.rroot (h : BoS W s n L M l l2 K w) (o i : Int) (hlen : l2.length < 1000) :
  Calls Tryz.prog 83 #[.pointer (some ⟨s.trb, 0, none⟩), slV o i] w fun e w' => e = .returned (.int .i64 (rootA l2 o i).2) ∧ BoS W s n L M l (rootA l2 o i).1 K w' ∧ SameK K w w' :=
 h.rf fun v hR => rroot_any w s.trb v l2 o i hR hlen
theorem Bo.rchild (h : BoS W s n L M l l2 K w) (o i p j : Int) (hlen : l2.length < 1000) (hd : ∀ x ∈ l2, x.d < 1000) :
  Calls Tryz.prog 85 #[.pointer (some ⟨s.trb, 0, none⟩), slV o i, slV p j] w fun e w' => e = .returned (.int .i64 (childA l2 o i p j).2) ∧ BoS W s n L M l (childA l2 o i p j).1 K w' ∧ SameK K w w' :=
 h.rf fun v hR => rchild_any w s.trb v l2 o i p j hR hlen hd
theorem Bo.rremove (h : BoS W s n L M l l2 K w) (o i : Int) (hD : Dep l2) :
  Calls Tryz.prog 93 #[.pointer (some ⟨s.trb, 0, none⟩), slV o i] w fun e w' => e = .returned (.int .i64 (removeA l2 o i).2) ∧ BoS W s n L M l (removeA l2 o i).1 K w' ∧ SameK K w w' :=
 h.rf fun v hR => rremove_any w s.trb v l2 o i hR hD
theorem Bo.rmove (h : BoS W s n L M l l2 K w) (o i p j : Int) (hO : Once l2) :
  Calls Tryz.prog 90 #[.pointer (some ⟨s.trb, 0, none⟩), slV o i, slV p j] w fun e w' => e = .returned (.int .i64 (moveA l2 o i p j).2) ∧ BoS W s n L M l (moveA l2 o i p j).1 K w' ∧ SameK K w w' :=
 h.rf fun v hR => rmove_any w s.trb v l2 o i p j hR hO
theorem Bo.rswap (h : BoS W s n L M l l2 K w) (o i p j : Int) (hO : Once l2) :
  Calls Tryz.prog 92 #[.pointer (some ⟨s.trb, 0, none⟩), slV o i, slV p j] w fun e w' => e = .returned (.tuple #[]) ∧ BoS W s n L M l (swapA l2 o i p j) K w' ∧ SameK K w w' :=
 h.rf fun v hR => rswap_any w s.trb v l2 o i p j hR hO
theorem Bo.under (h : BoS W s n L M l l2 K w) (o i : Int) (ho : InS o) (hi : InS i) (hn : n < 1000000) :
  Calls Tryz.prog 67 #[.pointer (some ⟨s.tb, 0, none⟩), slV o i] w fun e w' => ∃ v, e = .returned v ∧ w'.ownsRow w.heap.size 30 2 v (belowA l o i).length (slsC (belowA l o i)) ∧ Below w.heap.size w w' := by
 obtain ⟨ps, f, u, h⟩ := h
 exact below_any w W.heap.size s.tb s.m n ps l f o i ho hi h.tr hn
theorem Bo.runder (h : BoS W s n L M l l2 K w) (o i : Int) :
  Calls Tryz.prog 49 #[.pointer (some ⟨s.trb, 0, none⟩), slV o i] w fun e w' => ∃ v, e = .returned v ∧ SlotsAt w' v (belowA l2 o i) ∧ Below w.heap.size w w' := by
 obtain ⟨ps, f, u, h⟩ := h
 exact rbelow_any w s.trb u l2 o i h.rf
theorem Bo.all (h : BoS W s n L M l l2 K w) (hn : n < 1000000) :
  Calls Tryz.prog 56 #[.pointer (some ⟨s.tb, 0, none⟩)] w fun e w' => ∃ v, e = .returned v ∧ w'.ownsRow w.heap.size 44 3 v l.length (nodsC l) ∧ Below w.heap.size w w' := by
 obtain ⟨ps, f, u, h⟩ := h
 exact all_any w W.heap.size s.tb s.m n ps l f h.tr hn
theorem Bo.list (h : BoS W s n L M l l2 K w) : ∃ v, w.cell? ⟨s.trb, 0, none⟩ = some v ∧ w.ownsRow 0 44 3 v l2.length (nodsC l2) ∧ s.trb < w.heap.size := by
 obtain ⟨ps, f, u, h⟩ := h
 exact ⟨u, (cell_box h.rf.blk).1, h.rf.row, (ags h.rf.blk).1⟩
end HdS
end
section
namespace HdS
open TabS (Cp Sn zC mayC sizS getR getN Two Pr FootP foot_ltP foot_ltR SameS AddRel addSR setN setM rowsS hasS dropSR dropSL heldA hdsC)
structure Hd (W : World) (s : Sh) (hb rhb n : Nat) (L M : List Sn) (l l2 : List Nod) (S : Nat → Prop) (w : World) : Prop where
 bo : BoS W s n L M l l2 (fun k => k = hb ∨ k = rhb ∨ S k) w
 hd : w.heap[hb]? = some (.cells #[.pointer (some ⟨s.sb, 0, none⟩), .pointer (some ⟨s.tb, 0, none⟩)] 93 (0, 0))
 rh : w.heap[rhb]? = some (.cells #[.pointer (some ⟨s.srb, 0, none⟩), .pointer (some ⟨s.trb, 0, none⟩)] 71 (0, 0))
variable {W w w' : World} {s : Sh} {hb rhb n n' : Nat} {L M L' M' : List Sn} {l l2 l' l2' : List Nod} {S : Nat → Prop}
theorem Hd.lift (h : Hd W s hb rhb n L M l l2 S w) (hB : BoS W s n' L' M' l' l2' (fun k => k = hb ∨ k = rhb ∨ S k) w') (hK : SameK (fun k => k = hb ∨ k = rhb ∨ S k) w w') : Hd W s hb rhb n' L' M' l' l2' S w' :=
 ⟨hB, (hK hb (.inl rfl)).trans h.hd, (hK rhb (.inr (.inl rfl))).trans h.rh⟩
theorem Hd.call (h : Hd W s hb rhb n L M l l2 S w) (hb' : Below w.heap.size w w') : Hd W s hb rhb n L M l l2 S w' :=
 h.lift (h.bo.call hb').1 (h.bo.call hb').2
theorem Hd.below (h : Hd W s hb rhb n L M l l2 S w) : Below W.heap.size W w := h.bo.below
theorem Hd.c (h : Hd W s hb rhb n L M l l2 S w) : w.cell? ⟨hb, 0, none⟩ = some (.pointer (some ⟨s.sb, 0, none⟩)) ∧ w.cell? ⟨hb, 1, none⟩ = some (.pointer (some ⟨s.tb, 0, none⟩)) ∧ hb < w.heap.size :=
 ⟨cell_cur (cur := [.pointer (some ⟨s.sb, 0, none⟩), .pointer (some ⟨s.tb, 0, none⟩)]) h.hd 0, cell_cur (cur := [.pointer (some ⟨s.sb, 0, none⟩), .pointer (some ⟨s.tb, 0, none⟩)]) h.hd 1, (ags h.hd).1⟩
theorem Hd.rc (h : Hd W s hb rhb n L M l l2 S w) : w.cell? ⟨rhb, 0, none⟩ = some (.pointer (some ⟨s.srb, 0, none⟩)) ∧ w.cell? ⟨rhb, 1, none⟩ = some (.pointer (some ⟨s.trb, 0, none⟩)) ∧ rhb < w.heap.size :=
 ⟨cell_cur (cur := [.pointer (some ⟨s.srb, 0, none⟩), .pointer (some ⟨s.trb, 0, none⟩)]) h.rh 0, cell_cur (cur := [.pointer (some ⟨s.srb, 0, none⟩), .pointer (some ⟨s.trb, 0, none⟩)]) h.rh 1, (ags h.rh).1⟩
def gt (L : List Sn) (o i : Int) : Cp := (getR L o i).getD zC
def gn (L : List Sn) (o i : Int) : Int := getN (getR L o i)
theorem cap_cells {w : World} {k : Nat} {c : Cp} (h : w.heap[k]? = some (.cells c.L.toArray 33 (0, 0))) : w.cell? ⟨k, 0, none⟩ = some (.int .i64 c.a) ∧ w.cell? ⟨k, 1, none⟩ = some (.int .i64 c.b) ∧ w.cell? ⟨k, 2, none⟩ = some (.int .i64 c.c) ∧ w.cell? ⟨k, 3, none⟩ = some (.int .u64 c.d) ∧ w.cell? ⟨k, 4, none⟩ = some (.int .i64 c.e) ∧ w.cell? ⟨k, 5, none⟩ = some (.int .i64 c.f) ∧ w.cell? ⟨k, 6, none⟩ = some (.int .i64 c.g) ∧ w.cell? ⟨k, 7, none⟩ = some (.int .i64 c.h) :=
 ⟨cell_cur (cur := c.L) h 0, cell_cur (cur := c.L) h 1, cell_cur (cur := c.L) h 2, cell_cur (cur := c.L) h 3, cell_cur (cur := c.L) h 4, cell_cur (cur := c.L) h 5, cell_cur (cur := c.L) h 6, cell_cur (cur := c.L) h 7⟩
theorem cap_froz {w : World} {k : Nat} {xs : Array Value} {t : TypeId} (h : w.heap[k]? = some (.cells xs t (0, 0))) : ∀ j, w.frozen? ⟨k, j, none⟩ = false := fun j => by simp [World.frozen?, h]
theorem slot_cells {w : World} {k : Nat} {x y : Int} (h : w.heap[k]? = some (.cells #[.int .i64 x, .int .i64 y] 30 (0, 0))) : w.cell? ⟨k, 0, none⟩ = some (.int .i64 x) ∧ w.cell? ⟨k, 1, none⟩ = some (.int .i64 y) :=
 ⟨cell_cur (cur := [.int .i64 x, .int .i64 y]) h 0, cell_cur (cur := [.int .i64 x, .int .i64 y]) h 1⟩
def lay8 (w : World) (k : Nat) (n : Cp) : World := (((((((w.setCell ⟨k, 0, none⟩ (.int .i64 n.a)).setCell ⟨k, 1, none⟩ (.int .i64 n.b)).setCell ⟨k, 2, none⟩ (.int .i64 n.c)).setCell ⟨k, 3, none⟩ (.int .u64 n.d)).setCell ⟨k, 4, none⟩ (.int .i64 n.e)).setCell ⟨k, 5, none⟩ (.int .i64 n.f)).setCell ⟨k, 6, none⟩ (.int .i64 n.g)).setCell ⟨k, 7, none⟩ (.int .i64 n.h)
theorem set_step {w : World} {k : Nat} {l : List Value} {t : TypeId} (i : Nat) (v : Value) (h : w.heap[k]? = some (.cells l.toArray t (0, 0))) : (w.setCell ⟨k, i, none⟩ v).heap[k]? = some (.cells (l.set i v).toArray t (0, 0)) := by
 rw [Go.heap_setCell_same _ k i _ t v h]
 simp
theorem lay8_same {w : World} {k : Nat} {c : Cp} {t : TypeId} (n : Cp) (h : w.heap[k]? = some (.cells c.L.toArray t (0, 0))) : (lay8 w k n).heap[k]? = some (.cells n.L.toArray t (0, 0)) := by
 have e : (((((((c.L.set 0 (.int .i64 n.a)).set 1 (.int .i64 n.b)).set 2 (.int .i64 n.c)).set 3 (.int .u64 n.d)).set 4 (.int .i64 n.e)).set 5 (.int .i64 n.f)).set 6 (.int .i64 n.g)).set 7 (.int .i64 n.h) = n.L := rfl
 rw [← e]
 unfold lay8
 exact set_step 7 _ (set_step 6 _ (set_step 5 _ (set_step 4 _ (set_step 3 _ (set_step 2 _ (set_step 1 _ (set_step 0 _ h)))))))
theorem lay8_below {w0 w : World} {B k : Nat} (n : Cp) (h : Below B w0 w) (hk : B ≤ k) : Below B w0 (lay8 w k n) :=
 (((((((h.setCell (p := ⟨k, 0, none⟩) hk _).setCell (p := ⟨k, 1, none⟩) hk _).setCell (p := ⟨k, 2, none⟩) hk _).setCell (p := ⟨k, 3, none⟩) hk _).setCell (p := ⟨k, 4, none⟩) hk _).setCell (p := ⟨k, 5, none⟩) hk _).setCell (p := ⟨k, 6, none⟩) hk _).setCell (p := ⟨k, 7, none⟩) hk _
theorem hslots (h : Hd W s hb rhb n L M l l2 S w) :
  Calls Tryz.prog 51 #[.pointer (some ⟨hb, 0, none⟩)] w fun e w' => e = .returned (.pointer (some ⟨s.sb, 0, none⟩)) ∧ w = w' := by
 obtain ⟨c0, -, -⟩ := h.c
 clear h
 go_enter Tryz.func51, Tryz.ntmps51
 go_wp2
 go_ret
 exact ⟨rfl, by trivial⟩
theorem hsome (w : World) (hT : CX.TabG w) (c : Cp) (he : c.e ≤ 9223372036854775807) :
  Calls Tryz.prog 76 #[c.V] w fun e w' => e = .returned (.bool (mayC c && decide (c.a ≠ 0))) ∧ Below w.heap.size w w' := by
 obtain ⟨ca, cb, cx, cd, ce, cf, cg, ch⟩ := c
 have hal : Below w.heap.size w (w.alloc (.cells #[.int .i64 ca, .int .i64 cb, .int .i64 cx, .int .u64 cd, .int .i64 ce, .int .i64 cf, .int .i64 cg, .int .i64 ch] 33)) := bal (Below.refl _ _) _
 have HM := hid (CX.capMay ca cb cx cd ce cf cg ch _ (hT.call hal) he)
 have HAL := hid hal
 have hx : (w.alloc (.cells (⟨ca, cb, cx, cd, ce, cf, cg, ch⟩ : Cp).L.toArray 33)).heap[w.heap.size]? = some (.cells (⟨ca, cb, cx, cd, ce, cf, cg, ch⟩ : Cp).L.toArray 33 (0, 0)) := heap_alloc_new w _
 have HX := hid hx
 have hz : w.heap.size < (w.alloc (.cells (⟨ca, cb, cx, cd, ce, cf, cg, ch⟩ : Cp).L.toArray 33)).heap.size := by simp
 have HZ := hid hz
 obtain ⟨mb, hmb⟩ : ∃ y, y = mayC (⟨ca, cb, cx, cd, ce, cf, cg, ch⟩ : Cp) := ⟨_, rfl⟩
 have HM' : Hid (Calls Tryz.prog 15 #[.agg #[.int .i64 ca, .int .i64 cb, .int .i64 cx, .int .u64 cd, .int .i64 ce, .int .i64 cf, .int .i64 cg, .int .i64 ch]] (w.alloc (.cells #[.int .i64 ca, .int .i64 cb, .int .i64 cx, .int .u64 cd, .int .i64 ce, .int .i64 cf, .int .i64 cg, .int .i64 ch] 33)) fun e w' => e = .returned (.bool mb) ∧ Below (w.alloc (.cells #[.int .i64 ca, .int .i64 cb, .int .i64 cx, .int .u64 cd, .int .i64 ce, .int .i64 cf, .int .i64 cg, .int .i64 ch] 33)).heap.size (w.alloc (.cells #[.int .i64 ca, .int .i64 cb, .int .i64 cx, .int .u64 cd, .int .i64 ce, .int .i64 cf, .int .i64 cg, .int .i64 ch] 33)) w') := hid (by rw [hmb]; exact HM.out)
 rw [← hmb]
 simp only []
 clear hT hal hx hz hmb HM he
 cases mb with
 | false =>
  go_enter Tryz.func76, Tryz.ntmps76
  go_wp2_with (go_at_call 15; (with_reducible refine HM'.out.mono ?_); rintro e w1 ⟨rfl, hb1⟩; have HB1 := hid (HAL.out.trans (hb1.mono HAL.out.size)); clear hb1)
  go_ret
  exact ⟨by first | rfl | simp, HB1.out⟩
 | true =>
  by_cases h0 : ca = 0
  ·subst h0
   go_enter Tryz.func76, Tryz.ntmps76
   go_wp2_with (go_at_call 15; (with_reducible refine HM'.out.mono ?_); rintro e w1 ⟨rfl, hb1⟩; have HB1 := hid (HAL.out.trans (hb1.mono HAL.out.size)); have hx1 := (hb1.block w.heap.size HZ.out).trans HX.out; obtain ⟨x0, -⟩ := cap_cells hx1; simp only [] at x0; clear hb1 hx1)
   go_ret
   exact ⟨by first | rfl | simp, HB1.out⟩
  ·go_enter Tryz.func76, Tryz.ntmps76
   go_wp2_with (go_at_call 15; (with_reducible refine HM'.out.mono ?_); rintro e w1 ⟨rfl, hb1⟩; have HB1 := hid (HAL.out.trans (hb1.mono HAL.out.size)); have hx1 := (hb1.block w.heap.size HZ.out).trans HX.out; obtain ⟨x0, -⟩ := cap_cells hx1; simp only [] at x0; clear hb1 hx1)
   go_ret
   exact ⟨by first | rfl | simp [h0], HB1.out⟩
end HdS
end
section
namespace HdS
open TabS (Cp Sn zC mayC sizS getR getN Two Pr FootP foot_ltP foot_ltR SameS AddRel addSR setN setM rowsS hasS dropSR dropSL heldA hdsC)
variable {W w w' : World} {s : Sh} {hb rhb n n' : Nat} {L M L' M' : List Sn} {l l2 l' l2' : List Nod} {S : Nat → Prop}
theorem two_boxes (w : World) (o i : Int) : Below w.heap.size w ((w.alloc (slO o i)).alloc (.cells zC.L.toArray 33)) ∧ ((w.alloc (slO o i)).alloc (.cells zC.L.toArray 33)).heap[w.heap.size]? = some (.cells #[.int .i64 o, .int .i64 i] 30 (0, 0)) ∧ ((w.alloc (slO o i)).alloc (.cells zC.L.toArray 33)).heap[w.heap.size + 1]? = some (.cells zC.L.toArray 33 (0, 0)) := by
 refine ⟨bal (bal (Below.refl _ _) _) _, (Below.heap_alloc _ _ _ (by simp)).trans (heap_alloc_new w _), ?_⟩
 have := heap_alloc_new (w.alloc (slO o i)) (.cells zC.L.toArray 33)
 rwa [World.size_alloc] at this
theorem lay8_cell {w : World} {k j i : Nat} (n : Cp) (h : j ≠ k) : (lay8 w k n).cell? ⟨j, i, none⟩ = w.cell? ⟨j, i, none⟩ := by
 refine World.cell?_of_block ?_
 unfold lay8
 iterate 8 rw [Go.heap_setCell_other _ _ _ _ h]
theorem hget (h : Hd W s hb rhb n L M l l2 S w) (o i : Int) :
  Calls Tryz.prog 20 #[.pointer (some ⟨hb, 0, none⟩), slV o i] w fun e w' => e = .returned (.tuple #[(gt L o i).V, .int .i64 (gn L o i)]) ∧ Below w.heap.size w w' := by
 obtain ⟨hb1, hs1, hc1⟩ := two_boxes w o i
 obtain ⟨w1, hw1⟩ : ∃ y, y = (w.alloc (slO o i)).alloc (.cells zC.L.toArray 33) := ⟨_, rfl⟩
 rw [← hw1] at hb1 hs1 hc1
 have H1 := hid (h.call hb1)
 have HB1 := hid hb1
 have HC1 := hid hc1
 have HSL := hid (fun (v : World) (hv : Hd W s hb rhb n L M l l2 S v) => hslots hv)
 have HG : Hid (∀ v, Hd W s hb rhb n L M l l2 S v → Calls Tryz.prog 66 #[.pointer (some ⟨s.sb, 0, none⟩), .agg #[.int .i64 o, .int .i64 i]] v fun e w' => e = .returned (.tuple #[(gt L o i).V, .int .i64 (gn L o i)]) ∧ Below v.heap.size v w') := hid (fun v hv => hv.bo.get o i)
 obtain ⟨k0, k1⟩ := slot_cells hs1
 have HK := hid (And.intro k0 k1)
 generalize gt L o i = c at *
 generalize gn L o i = cn at *
 obtain ⟨ca, cb, cx, cd, ce, cf, cg, ch⟩ := c
 have hz1 := (ags hc1).1
 have HZ1 := hid hz1
 have HW := hid hw1
 have HKd : Hid (w1.drew.cell? ⟨w.heap.size, 0, none⟩ = some (.int .i64 o) ∧ w1.drew.cell? ⟨w.heap.size, 1, none⟩ = some (.int .i64 i)) := hid HK.out
 have HZ0 : Hid (w.heap.size < w1.heap.size) := hid (by omega)
 have H1d := hid (H1.out.call (show Below w1.heap.size w1 w1.drew from (Below.refl _ _).drew))
 clear h hb1 hs1 hc1 hw1 hz1
 go_enter Tryz.func20, Tryz.ntmps20
 go_upto_region 1 with fail
 rw [show ((w.alloc (slO o i)).alloc (.cells #[.int .i64 0, .int .i64 0, .int .i64 0, .int .u64 0, .int .i64 0, .int .i64 0, .int .i64 0, .int .i64 0] 33)) = w1 from HW.out.symm]
 go_region_held3 (fun w' => w'.cell? ⟨w.heap.size, 0, none⟩ = some (.int .i64 o) ∧ w'.cell? ⟨w.heap.size, 1, none⟩ = some (.int .i64 i))
  (first | (with_reducible exact HK.out) | (with_reducible exact HKd.out) | (with_reducible exact K3.out) | (with_reducible exact KL.out))
  (first
   | (go_at_call 51; (with_reducible refine (HSL.out _ H1d.out).mono ?_); rintro e w2 ⟨rfl, rfl⟩)
   | (go_at_call 66; (with_reducible refine (HG.out _ H1d.out).mono ?_); rintro e w3 ⟨rfl, hb3⟩; have HB3 := hid hb3; have hc3 := (hb3.block _ HZ1.out).trans HC1.out; obtain ⟨y0, y1, y2, y3, y4, y5, y6, y7⟩ := cap_cells hc3; have g0 := cap_froz hc3 0; have g1 := cap_froz hc3 1; have g2 := cap_froz hc3 2; have g3 := cap_froz hc3 3; have g4 := cap_froz hc3 4; have g5 := cap_froz hc3 5; have g6 := cap_froz hc3 6; have g7 := cap_froz hc3 7; have hz3 := (ags hc3).1; have HC3 := hid hc3; have K3 := hid (And.intro ((hb3.cell (p := ⟨w.heap.size, 0, none⟩) HZ0.out).trans HK.out.1) ((hb3.cell (p := ⟨w.heap.size, 1, none⟩) HZ0.out).trans HK.out.2)); have kl := (And.intro ((lay8_cell (w := w3) (k := w.heap.size + 1) (i := 0) ⟨ca, cb, cx, cd, ce, cf, cg, ch⟩ (show w.heap.size ≠ w.heap.size + 1 by omega)).trans K3.out.1) ((lay8_cell (w := w3) (k := w.heap.size + 1) (i := 1) ⟨ca, cb, cx, cd, ce, cf, cg, ch⟩ (show w.heap.size ≠ w.heap.size + 1 by omega)).trans K3.out.2)); simp only [lay8] at kl; have KL := hid kl; clear hb3 hc3 kl))
 all_goals
  have HF := hid (lay8_same ⟨ca, cb, cx, cd, ce, cf, cg, ch⟩ HC3.out)
  have HFB := hid (lay8_below (k := w.heap.size + 1) ⟨ca, cb, cx, cd, ce, cf, cg, ch⟩ (HB1.out.trans ((show Below w1.heap.size w1 w3 from ((Below.refl _ _).drew).trans HB3.out).mono HB1.out.size)) (by omega))
  show Exit.then _ _ Exit.normal _ (lay8 w3 (w.heap.size + 1) ⟨ca, cb, cx, cd, ce, cf, cg, ch⟩)
  generalize lay8 w3 (w.heap.size + 1) ⟨ca, cb, cx, cd, ce, cf, cg, ch⟩ = w4 at *
  obtain ⟨x0, x1, x2, x3, x4, x5, x6, x7⟩ := cap_cells HF.out
  simp only [] at x0 x1 x2 x3 x4 x5 x6 x7
  clear y0 y1 y2 y3 y4 y5 y6 y7 g0 g1 g2 g3 g4 g5 g6 g7
  go_wp2
  exact bodyPost_ret (v := .tuple #[.agg #[.int .i64 ca, .int .i64 cb, .int .i64 cx, .int .u64 cd, .int .i64 ce, .int .i64 cf, .int .i64 cg, .int .i64 ch], .int .i64 cn]) (by simp [results, Tryz.results20, go_sem, x0, x1, x2, x3, x4, x5, x6, x7]) rfl ⟨rfl, HFB.out⟩
def fullN (L : List Sn) (o i : Int) : Int := if gn L o i = 0 ∧ (gt L o i).a = 0 then 10 else gn L o i
theorem hfull (h : Hd W s hb rhb n L M l l2 S w) (o i : Int) :
  Calls Tryz.prog 69 #[.pointer (some ⟨hb, 0, none⟩), slV o i] w fun e w' => e = .returned (.tuple #[(gt L o i).V, .int .i64 (fullN L o i)]) ∧ Below w.heap.size w w' := by
 obtain ⟨hb1, hs1, hc1⟩ := two_boxes w o i
 obtain ⟨w1, hw1⟩ : ∃ y, y = (w.alloc (slO o i)).alloc (.cells zC.L.toArray 33) := ⟨_, rfl⟩
 rw [← hw1] at hb1 hs1 hc1
 have H1 := hid (h.call hb1)
 have HB1 := hid hb1
 have HC1 := hid hc1
 have HG := hid (hget H1.out o i)
 obtain ⟨k0, k1⟩ := slot_cells hs1
 unfold fullN
 generalize gt L o i = c at *
 generalize gn L o i = cn at *
 obtain ⟨ca, cb, cx, cd, ce, cf, cg, ch⟩ := c
 obtain ⟨N, hN⟩ : ∃ y : Int, y = (if cn = 0 ∧ (⟨ca, cb, cx, cd, ce, cf, cg, ch⟩ : Cp).a = 0 then 10 else cn) := ⟨_, rfl⟩
 rw [← hN]
 have HN := hid hN
 clear hN
 have HZ1 := hid (ags hc1).1
 have HW := hid hw1
 clear h hb1 hs1 hc1 hw1
 go_enter Tryz.func69, Tryz.ntmps69
 go_upto_region 1 with fail
 rw [show ((w.alloc (slO o i)).alloc (.cells #[.int .i64 0, .int .i64 0, .int .i64 0, .int .u64 0, .int .i64 0, .int .i64 0, .int .i64 0, .int .i64 0] 33)) = w1 from HW.out.symm]
 go_upto_region 2 with (go_at_call 20; (with_reducible refine HG.out.mono ?_); rintro e w2 ⟨rfl, hb2⟩; have HB2 := hid hb2; clear hb2)
 obtain ⟨w3, hw3⟩ : ∃ y, y = w2.alloc (.cells #[.int .i64 ca, .int .i64 cb, .int .i64 cx, .int .u64 cd, .int .i64 ce, .int .i64 cf, .int .i64 cg, .int .i64 ch] 33) := ⟨_, rfl⟩
 have hb3 : Below w1.heap.size w1 w3 := hw3 ▸ bal HB2.out _
 have hx3 : w3.heap[w2.heap.size]? = some (.cells (⟨ca, cb, cx, cd, ce, cf, cg, ch⟩ : Cp).L.toArray 33 (0, 0)) := by rw [hw3]; exact heap_alloc_new w2 _
 have hc3 := (hb3.block _ HZ1.out).trans HC1.out
 have HC3 := hid hc3
 have HFB := hid (lay8_below (k := w.heap.size + 1) ⟨ca, cb, cx, cd, ce, cf, cg, ch⟩ (HB1.out.trans (hb3.mono HB1.out.size)) (by omega))
 rw [← hw3]
 generalize w2.heap.size = xB at *
 obtain ⟨x0, x1, x2, x3, x4, x5, x6, x7⟩ := cap_cells hx3
 simp only [] at x0 x1 x2 x3 x4 x5 x6 x7
 obtain ⟨y0, y1, y2, y3, y4, y5, y6, y7⟩ := cap_cells hc3
 have g0 := cap_froz hc3 0
 have g1 := cap_froz hc3 1
 have g2 := cap_froz hc3 2
 have g3 := cap_froz hc3 3
 have g4 := cap_froz hc3 4
 have g5 := cap_froz hc3 5
 have g6 := cap_froz hc3 6
 have g7 := cap_froz hc3 7
 have hz3 := (ags hc3).1
 have HF := hid (lay8_same ⟨ca, cb, cx, cd, ce, cf, cg, ch⟩ HC3.out)
 obtain ⟨w4, hw4⟩ : ∃ y, y = lay8 w3 (w.heap.size + 1) ⟨ca, cb, cx, cd, ce, cf, cg, ch⟩ := ⟨_, rfl⟩
 rw [← hw4] at HF HFB
 simp only [lay8] at hw4
 have H4 := hid hw4
 clear hw4
 clear hw3 hb3 hx3 hc3 k0 k1 HG H1
 by_cases hn : cn = 0
 ·subst hn
  by_cases h0 : ca = 0
  ·subst h0
   obtain rfl : N = 10 := by rw [HN.out]; rfl
   go_wp2
   rw [← H4.out]
   obtain ⟨q0, q1, q2, q3, q4, q5, q6, q7⟩ := cap_cells HF.out
   simp only [] at q0 q1 q2 q3 q4 q5 q6 q7
   exact bodyPost_ret (v := .tuple #[.agg #[.int .i64 0, .int .i64 cb, .int .i64 cx, .int .u64 cd, .int .i64 ce, .int .i64 cf, .int .i64 cg, .int .i64 ch], .int .i64 10]) (by simp [results, Tryz.results69, go_sem, q0, q1, q2, q3, q4, q5, q6, q7]) rfl ⟨rfl, HFB.out⟩
  ·obtain rfl : N = 0 := by rw [HN.out, if_neg (fun e => h0 e.2)]
   go_wp2
   rw [← H4.out]
   obtain ⟨q0, q1, q2, q3, q4, q5, q6, q7⟩ := cap_cells HF.out
   simp only [] at q0 q1 q2 q3 q4 q5 q6 q7
   exact bodyPost_ret (v := .tuple #[.agg #[.int .i64 ca, .int .i64 cb, .int .i64 cx, .int .u64 cd, .int .i64 ce, .int .i64 cf, .int .i64 cg, .int .i64 ch], .int .i64 0]) (by simp [results, Tryz.results69, go_sem, q0, q1, q2, q3, q4, q5, q6, q7]) rfl ⟨rfl, HFB.out⟩
 ·obtain rfl : N = cn := by rw [HN.out, if_neg (fun e => hn e.1)]
  go_wp2
  rw [← H4.out]
  obtain ⟨q0, q1, q2, q3, q4, q5, q6, q7⟩ := cap_cells HF.out
  simp only [] at q0 q1 q2 q3 q4 q5 q6 q7
  exact bodyPost_ret (v := .tuple #[.agg #[.int .i64 ca, .int .i64 cb, .int .i64 cx, .int .u64 cd, .int .i64 ce, .int .i64 cf, .int .i64 cg, .int .i64 ch], .int .i64 N]) (by simp [results, Tryz.results69, go_sem, q0, q1, q2, q3, q4, q5, q6, q7]) rfl ⟨rfl, HFB.out⟩
def pairF (cn fn : Int) (ta : Int) : Int := if cn ≠ 0 then cn else if fn ≠ 0 then fn else if ta ≠ 0 then 11 else 0
def pairN (L : List Sn) (o i p j : Int) : Int := pairF (gn L p j) (fullN L o i) (gt L p j).a
def pairC (L : List Sn) (o i p j : Int) : Cp := if pairN L o i p j = 0 then gt L o i else zC
theorem three_boxes (w : World) (o i p j : Int) : Below w.heap.size w (((w.alloc (slO o i)).alloc (slO p j)).alloc (.cells zC.L.toArray 33)) ∧ (((w.alloc (slO o i)).alloc (slO p j)).alloc (.cells zC.L.toArray 33)).heap[w.heap.size]? = some (.cells #[.int .i64 o, .int .i64 i] 30 (0, 0)) ∧ (((w.alloc (slO o i)).alloc (slO p j)).alloc (.cells zC.L.toArray 33)).heap[w.heap.size + 1]? = some (.cells #[.int .i64 p, .int .i64 j] 30 (0, 0)) ∧ (((w.alloc (slO o i)).alloc (slO p j)).alloc (.cells zC.L.toArray 33)).heap[w.heap.size + 2]? = some (.cells zC.L.toArray 33 (0, 0)) := by
 have h1 := heap_alloc_new (w.alloc (slO o i)) (slO p j)
 have h2 := heap_alloc_new ((w.alloc (slO o i)).alloc (slO p j)) (.cells zC.L.toArray 33)
 rw [World.size_alloc] at h1 h2
 rw [World.size_alloc] at h2
 exact ⟨bal (bal (bal (Below.refl _ _) _) _) _, (Below.heap_alloc _ _ _ (by simp; omega)).trans ((Below.heap_alloc _ _ _ (by simp)).trans (heap_alloc_new w _)), (Below.heap_alloc _ _ _ (by simp)).trans h1, h2⟩
theorem hpair (h : Hd W s hb rhb n L M l l2 S w) (o i p j : Int) :
  Calls Tryz.prog 68 #[.pointer (some ⟨hb, 0, none⟩), slV o i, slV p j] w fun e w' => e = .returned (.tuple #[(pairC L o i p j).V, .int .i64 (pairN L o i p j)]) ∧ Below w.heap.size w w' := by
 obtain ⟨hb1, hs1, ht1, hc1⟩ := three_boxes w o i p j
 obtain ⟨w1, hw1⟩ : ∃ y, y = ((w.alloc (slO o i)).alloc (slO p j)).alloc (.cells zC.L.toArray 33) := ⟨_, rfl⟩
 rw [← hw1] at hb1 hs1 ht1 hc1
 have H1 := hid (h.call hb1)
 have HB1 := hid hb1
 have HC1 := hid hc1
 have HS1 := hid hs1
 have HG := hid (hget H1.out p j)
 have HFU := hid (fun (v : World) (hv : Hd W s hb rhb n L M l l2 S v) => hfull hv o i)
 obtain ⟨PC, hpc⟩ : ∃ y, y = pairC L o i p j := ⟨_, rfl⟩
 obtain ⟨N, hN⟩ : ∃ y, y = pairN L o i p j := ⟨_, rfl⟩
 rw [← hpc, ← hN]
 unfold pairC at hpc
 rw [← hN] at hpc
 unfold pairN pairF at hN
 generalize gt L p j = t at *
 generalize gn L p j = cn at *
 generalize gt L o i = c at *
 generalize fullN L o i = fn at *
 obtain ⟨ca, cb, cx, cd, ce, cf, cg, ch⟩ := c
 obtain ⟨ta, tb, tx, td, te, tf, tg, th⟩ := t
 simp only [] at hN
 have HN := hid hN
 have HPC := hid hpc
 obtain ⟨k0, k1⟩ := slot_cells ht1
 have HZ1 := hid (ags hc1).1
 have HW := hid hw1
 clear h hb1 hs1 ht1 hc1 hw1 hN hpc
 go_enter Tryz.func68, Tryz.ntmps68
 go_upto_region 1 with fail
 rw [show (((w.alloc (slO o i)).alloc (slO p j)).alloc (.cells #[.int .i64 0, .int .i64 0, .int .i64 0, .int .u64 0, .int .i64 0, .int .i64 0, .int .i64 0, .int .i64 0] 33)) = w1 from HW.out.symm]
 go_upto_region 2 with (go_at_call 20; (with_reducible refine HG.out.mono ?_); rintro e w2 ⟨rfl, hb2⟩; have HB2 := hid hb2; clear hb2)
 obtain ⟨w3, hw3⟩ : ∃ y, y = w2.alloc (.cells #[.int .i64 ta, .int .i64 tb, .int .i64 tx, .int .u64 td, .int .i64 te, .int .i64 tf, .int .i64 tg, .int .i64 th] 33) := ⟨_, rfl⟩
 have hb3 : Below w1.heap.size w1 w3 := hw3 ▸ bal HB2.out _
 have hx3 : w3.heap[w2.heap.size]? = some (.cells (⟨ta, tb, tx, td, te, tf, tg, th⟩ : Cp).L.toArray 33 (0, 0)) := by rw [hw3]; exact heap_alloc_new w2 _
 have HX3 := hid hx3
 have H3 := hid (H1.out.call hb3)
 have HC3 := hid ((hb3.block _ HZ1.out).trans HC1.out)
 have HZ0 : Hid (w.heap.size < w1.heap.size) := hid (by have := HZ1.out; omega)
 have HS3 := hid ((hb3.block _ HZ0.out).trans HS1.out)
 have HB3 := hid (HB1.out.trans (hb3.mono HB1.out.size))
 rw [← hw3]
 generalize w2.heap.size = xB at *
 clear hw3 hb3 hx3 k0 k1 HG H1 HB1 HC1 HS1 HB2
 by_cases hn : cn = 0
 ·subst hn
  obtain ⟨k0, k1⟩ := slot_cells HS3.out
  have HFC := hid (HFU.out w3 H3.out)
  go_upto_region 5 with (go_at_call 69; (with_reducible refine HFC.out.mono ?_); rintro e w4 ⟨rfl, hb4⟩; have HB4 := hid hb4; clear hb4)
  obtain ⟨w5, hw5⟩ : ∃ y, y = w4.alloc (.cells #[.int .i64 ca, .int .i64 cb, .int .i64 cx, .int .u64 cd, .int .i64 ce, .int .i64 cf, .int .i64 cg, .int .i64 ch] 33) := ⟨_, rfl⟩
  have hb5 : Below w3.heap.size w3 w5 := hw5 ▸ bal HB4.out _
  have hx5 : w5.heap[w4.heap.size]? = some (.cells (⟨ca, cb, cx, cd, ce, cf, cg, ch⟩ : Cp).L.toArray 33 (0, 0)) := by rw [hw5]; exact heap_alloc_new w4 _
  have HC5 := hid ((hb5.block _ (ags HC3.out).1).trans HC3.out)
  have ht5 := (hb5.block _ (ags HX3.out).1).trans HX3.out
  have HB5 := hid (HB3.out.trans (hb5.mono HB3.out.size))
  rw [← hw5]
  generalize w4.heap.size = yB at *
  obtain ⟨t0, -⟩ := cap_cells ht5
  simp only [] at t0
  obtain ⟨x0, x1, x2, x3, x4, x5, x6, x7⟩ := cap_cells hx5
  simp only [] at x0 x1 x2 x3 x4 x5 x6 x7
  clear hw5 hb5 hx5 ht5 k0 k1 HFC HFU HB4 HB3 HC3 HS3 HX3 H3
  by_cases hf : fn = 0
  ·subst hf
   by_cases ht : ta = 0
   ·subst ht
    obtain rfl : N = 0 := by rw [HN.out]; rfl
    have hpc : PC = ⟨ca, cb, cx, cd, ce, cf, cg, ch⟩ := by rw [HPC.out]; exact if_pos rfl
    subst hpc
    have HF := hid (lay8_same ⟨ca, cb, cx, cd, ce, cf, cg, ch⟩ HC5.out)
    have HFB := hid (lay8_below (k := w.heap.size + 2) ⟨ca, cb, cx, cd, ce, cf, cg, ch⟩ HB5.out (by omega))
    obtain ⟨w9, hw9⟩ : ∃ y, y = lay8 w5 (w.heap.size + 2) ⟨ca, cb, cx, cd, ce, cf, cg, ch⟩ := ⟨_, rfl⟩
    rw [← hw9] at HF HFB
    simp only [lay8] at hw9
    have H9 := hid hw9
    clear hw9
    have hq := HC5.out
    have g0 := cap_froz hq 0
    have g1 := cap_froz hq 1
    have g2 := cap_froz hq 2
    have g3 := cap_froz hq 3
    have g4 := cap_froz hq 4
    have g5 := cap_froz hq 5
    have g6 := cap_froz hq 6
    have g7 := cap_froz hq 7
    have hzq := (ags hq).1
    obtain ⟨z0, z1, z2, z3, z4, z5, z6, z7⟩ := cap_cells hq
    clear hq
    go_wp2
    rw [← H9.out]
    obtain ⟨q0, q1, q2, q3, q4, q5, q6, q7⟩ := cap_cells HF.out
    simp only [] at q0 q1 q2 q3 q4 q5 q6 q7
    exact bodyPost_ret (v := .tuple #[.agg #[.int .i64 ca, .int .i64 cb, .int .i64 cx, .int .u64 cd, .int .i64 ce, .int .i64 cf, .int .i64 cg, .int .i64 ch], .int .i64 0]) (by simp [results, Tryz.results68, go_sem, q0, q1, q2, q3, q4, q5, q6, q7]) rfl ⟨rfl, HFB.out⟩
   ·have HNZ : Hid (¬ (11 : Int) = 0) := hid (by decide)
    obtain rfl : N = 11 := by rw [HN.out]; rw [if_neg (fun e => e rfl), if_neg (fun e => e rfl), if_pos ht]
    have hpc : PC = ⟨0, 0, 0, 0, 0, 0, 0, 0⟩ := by rw [HPC.out]; rw [if_neg HNZ.out]; rfl
    subst hpc
    have HF := hid (lay8_same ⟨0, 0, 0, 0, 0, 0, 0, 0⟩ HC5.out)
    have HFB := hid (lay8_below (k := w.heap.size + 2) ⟨0, 0, 0, 0, 0, 0, 0, 0⟩ HB5.out (by omega))
    obtain ⟨w9, hw9⟩ : ∃ y, y = lay8 w5 (w.heap.size + 2) ⟨0, 0, 0, 0, 0, 0, 0, 0⟩ := ⟨_, rfl⟩
    rw [← hw9] at HF HFB
    simp only [lay8] at hw9
    have H9 := hid hw9
    clear hw9
    have hq := HC5.out
    have g0 := cap_froz hq 0
    have g1 := cap_froz hq 1
    have g2 := cap_froz hq 2
    have g3 := cap_froz hq 3
    have g4 := cap_froz hq 4
    have g5 := cap_froz hq 5
    have g6 := cap_froz hq 6
    have g7 := cap_froz hq 7
    have hzq := (ags hq).1
    obtain ⟨z0, z1, z2, z3, z4, z5, z6, z7⟩ := cap_cells hq
    clear hq
    go_wp2
    rw [← H9.out]
    obtain ⟨q0, q1, q2, q3, q4, q5, q6, q7⟩ := cap_cells HF.out
    simp only [] at q0 q1 q2 q3 q4 q5 q6 q7
    exact bodyPost_ret (v := .tuple #[.agg #[.int .i64 0, .int .i64 0, .int .i64 0, .int .u64 0, .int .i64 0, .int .i64 0, .int .i64 0, .int .i64 0], .int .i64 11]) (by simp [results, Tryz.results68, go_sem, q0, q1, q2, q3, q4, q5, q6, q7]) rfl ⟨rfl, HFB.out⟩
  ·have HNZ := hid hf
   obtain rfl : fn = N := Eq.symm <| by rw [HN.out]; rw [if_neg (fun e => e rfl), if_pos hf]
   have hpc : PC = ⟨0, 0, 0, 0, 0, 0, 0, 0⟩ := by rw [HPC.out]; rw [if_neg HNZ.out]; rfl
   subst hpc
   have HF := hid (lay8_same ⟨0, 0, 0, 0, 0, 0, 0, 0⟩ HC5.out)
   have HFB := hid (lay8_below (k := w.heap.size + 2) ⟨0, 0, 0, 0, 0, 0, 0, 0⟩ HB5.out (by omega))
   obtain ⟨w9, hw9⟩ : ∃ y, y = lay8 w5 (w.heap.size + 2) ⟨0, 0, 0, 0, 0, 0, 0, 0⟩ := ⟨_, rfl⟩
   rw [← hw9] at HF HFB
   simp only [lay8] at hw9
   have H9 := hid hw9
   clear hw9
   have hq := HC5.out
   have g0 := cap_froz hq 0
   have g1 := cap_froz hq 1
   have g2 := cap_froz hq 2
   have g3 := cap_froz hq 3
   have g4 := cap_froz hq 4
   have g5 := cap_froz hq 5
   have g6 := cap_froz hq 6
   have g7 := cap_froz hq 7
   have hzq := (ags hq).1
   obtain ⟨z0, z1, z2, z3, z4, z5, z6, z7⟩ := cap_cells hq
   clear hq
   go_wp2
   rw [← H9.out]
   obtain ⟨q0, q1, q2, q3, q4, q5, q6, q7⟩ := cap_cells HF.out
   simp only [] at q0 q1 q2 q3 q4 q5 q6 q7
   exact bodyPost_ret (v := .tuple #[.agg #[.int .i64 0, .int .i64 0, .int .i64 0, .int .u64 0, .int .i64 0, .int .i64 0, .int .i64 0, .int .i64 0], .int .i64 fn]) (by simp [results, Tryz.results68, go_sem, q0, q1, q2, q3, q4, q5, q6, q7]) rfl ⟨rfl, HFB.out⟩
 ·have HNZ := hid hn
  obtain rfl : cn = N := Eq.symm <| by rw [HN.out]; rw [if_pos hn]
  have hpc : PC = ⟨0, 0, 0, 0, 0, 0, 0, 0⟩ := by rw [HPC.out]; rw [if_neg HNZ.out]; rfl
  subst hpc
  have HF := hid (lay8_same ⟨0, 0, 0, 0, 0, 0, 0, 0⟩ HC3.out)
  have HFB := hid (lay8_below (k := w.heap.size + 2) ⟨0, 0, 0, 0, 0, 0, 0, 0⟩ HB3.out (by omega))
  obtain ⟨w9, hw9⟩ : ∃ y, y = lay8 w3 (w.heap.size + 2) ⟨0, 0, 0, 0, 0, 0, 0, 0⟩ := ⟨_, rfl⟩
  rw [← hw9] at HF HFB
  simp only [lay8] at hw9
  have H9 := hid hw9
  clear hw9
  have hq := HC3.out
  have g0 := cap_froz hq 0
  have g1 := cap_froz hq 1
  have g2 := cap_froz hq 2
  have g3 := cap_froz hq 3
  have g4 := cap_froz hq 4
  have g5 := cap_froz hq 5
  have g6 := cap_froz hq 6
  have g7 := cap_froz hq 7
  have hzq := (ags hq).1
  obtain ⟨z0, z1, z2, z3, z4, z5, z6, z7⟩ := cap_cells hq
  clear hq
  go_wp2
  rw [← H9.out]
  obtain ⟨q0, q1, q2, q3, q4, q5, q6, q7⟩ := cap_cells HF.out
  simp only [] at q0 q1 q2 q3 q4 q5 q6 q7
  exact bodyPost_ret (v := .tuple #[.agg #[.int .i64 0, .int .i64 0, .int .i64 0, .int .u64 0, .int .i64 0, .int .i64 0, .int .i64 0, .int .i64 0], .int .i64 cn]) (by simp [results, Tryz.results68, go_sem, q0, q1, q2, q3, q4, q5, q6, q7]) rfl ⟨rfl, HFB.out⟩
def someB (c : Cp) : Bool := mayC c && decide (c.a ≠ 0)
def rootN (L : List Sn) (l : List Nod) (o i : Int) (c : Cp) : Int := if gn L o i ≠ 0 then gn L o i else if someB c = false then 5 else if (gt L o i).a ≠ 0 then 11 else (rootA l o i).2
def rootOn (L : List Sn) (o i : Int) (c : Cp) : Prop := gn L o i = 0 ∧ someB c = true ∧ (gt L o i).a = 0
theorem slot_cap_boxes (w : World) (o i : Int) (c : Cp) : Below w.heap.size w ((w.alloc (slO o i)).alloc (.cells c.L.toArray 33)) ∧ ((w.alloc (slO o i)).alloc (.cells c.L.toArray 33)).heap[w.heap.size]? = some (.cells #[.int .i64 o, .int .i64 i] 30 (0, 0)) ∧ ((w.alloc (slO o i)).alloc (.cells c.L.toArray 33)).heap[w.heap.size + 1]? = some (.cells c.L.toArray 33 (0, 0)) := by
 refine ⟨bal (bal (Below.refl _ _) _) _, (Below.heap_alloc _ _ _ (by simp)).trans (heap_alloc_new w _), ?_⟩
 have := heap_alloc_new (w.alloc (slO o i)) (.cells c.L.toArray 33)
 rwa [World.size_alloc] at this
theorem hroot_no (h : Hd W s hb rhb n L M l l2 S w) (hT0 : CX.TabG W) (o i : Int) (c : Cp) (he : c.e ≤ 9223372036854775807) (hno : ¬ rootOn L o i c) :
  Calls Tryz.prog 30 #[.pointer (some ⟨hb, 0, none⟩), slV o i, c.V] w fun e w' => e = .returned (.int .i64 (rootN L l o i c)) ∧ Below w.heap.size w w' := by
 obtain ⟨hb1, hs1, hc1⟩ := slot_cap_boxes w o i c
 obtain ⟨w1, hw1⟩ : ∃ y, y = (w.alloc (slO o i)).alloc (.cells c.L.toArray 33) := ⟨_, rfl⟩
 rw [← hw1] at hb1 hs1 hc1
 have H1 := hid (h.call hb1)
 have HB1 := hid hb1
 have HC1 := hid hc1
 have HG := hid (hget H1.out o i)
 have HT1 := hid (fun (v : World) (hv : Below w1.heap.size w1 v) => hsome v (hT0.call (H1.out.call hv).below) c he)
 have hsb : someB c = (mayC c && decide (c.a ≠ 0)) := rfl
 rw [← hsb] at HT1
 obtain ⟨N, hN⟩ : ∃ y, y = rootN L l o i c := ⟨_, rfl⟩
 rw [← hN]
 unfold rootN at hN
 unfold rootOn at hno
 generalize gt L o i = t at *
 generalize gn L o i = cn at *
 generalize someB c = sm at *
 obtain ⟨ta, tb, tx, td, te, tf, tg, th⟩ := t
 obtain ⟨ca, cb, cx, cd, ce, cf, cg, ch⟩ := c
 simp only [] at hN hno
 have HN := hid hN
 obtain ⟨k0, k1⟩ := slot_cells hs1
 have HZ1 := hid (ags hc1).1
 have HW := hid hw1
 clear h hb1 hs1 hc1 hw1 hN hsb hT0 he
 go_enter Tryz.func30, Tryz.ntmps30
 go_upto_region 1 with fail
 rw [show ((w.alloc (slO o i)).alloc (.cells #[.int .i64 ca, .int .i64 cb, .int .i64 cx, .int .u64 cd, .int .i64 ce, .int .i64 cf, .int .i64 cg, .int .i64 ch] 33)) = w1 from HW.out.symm]
 go_upto_region 2 with (go_at_call 20; (with_reducible refine HG.out.mono ?_); rintro e w2 ⟨rfl, hb2⟩; have HB2 := hid hb2; clear hb2)
 obtain ⟨w3, hw3⟩ : ∃ y, y = w2.alloc (.cells #[.int .i64 ta, .int .i64 tb, .int .i64 tx, .int .u64 td, .int .i64 te, .int .i64 tf, .int .i64 tg, .int .i64 th] 33) := ⟨_, rfl⟩
 have hb3 : Below w1.heap.size w1 w3 := hw3 ▸ bal HB2.out _
 have hx3 : w3.heap[w2.heap.size]? = some (.cells (⟨ta, tb, tx, td, te, tf, tg, th⟩ : Cp).L.toArray 33 (0, 0)) := by rw [hw3]; exact heap_alloc_new w2 _
 have HX3 := hid hx3
 have HB3w := hid hb3
 have HC3 := hid ((hb3.block _ HZ1.out).trans HC1.out)
 have HB3 := hid (HB1.out.trans (hb3.mono HB1.out.size))
 rw [← hw3]
 generalize w2.heap.size = xB at *
 clear hw3 hb3 hx3 k0 k1 HG H1 HB1 HC1 HB2
 by_cases hn : cn = 0
 ·subst hn
  obtain ⟨x0, x1, x2, x3, x4, x5, x6, x7⟩ := cap_cells HC3.out
  simp only [] at x0 x1 x2 x3 x4 x5 x6 x7
  have HSM := hid (HT1.out w3 HB3w.out)
  cases sm with
  | false =>
   obtain rfl : N = 5 := by rw [HN.out]; rfl
   go_wp2_with (go_at_call 76; (with_reducible refine HSM.out.mono ?_); rintro e w4 ⟨rfl, hb4⟩; have HB4 := hid (HB3.out.trans (hb4.mono HB3.out.size)); clear hb4)
   go_ret
   exact ⟨rfl, HB4.out⟩
  | true =>
   have ht : ta ≠ 0 := fun e => hno ⟨rfl, rfl, e⟩
   obtain rfl : N = 11 := by rw [HN.out, if_neg (fun e => e rfl), if_neg (by decide), if_pos ht]
   go_wp2_with (go_at_call 76; (with_reducible refine HSM.out.mono ?_); rintro e w4 ⟨rfl, hb4⟩; have HB4 := hid (HB3.out.trans (hb4.mono HB3.out.size)); have hx4 := (hb4.block xB (ags HX3.out).1).trans HX3.out; obtain ⟨t0, -⟩ := cap_cells hx4; simp only [] at t0; clear hb4 hx4)
   go_ret
   exact ⟨rfl, HB4.out⟩
 ·obtain rfl : cn = N := by rw [HN.out, if_pos hn]
  go_wp2
  go_ret
  exact ⟨rfl, HB3.out⟩
end HdS
end
section
namespace HdS
open TabS (Cp Sn zC mayC sizS getR getN Two Pr FootP foot_ltP foot_ltR SameS AddRel addSR setN setM rowsS hasS dropSR dropSL heldA hdsC)
variable {W w w' : World} {s : Sh} {hb rhb n n' : Nat} {L M L' M' : List Sn} {l l2 l' l2' : List Nod} {S K T : Nat → Prop}
def New (w w' : World) (k : Nat) : Prop := w.heap.size ≤ k ∧ k < w'.heap.size
theorem Bo.fresh (h : BoS W s n L M l l2 K w) (hb : Below w.heap.size w w') : BoS W s n L M l l2 (fun k => K k ∨ New w w' k) w' := by
 obtain ⟨ps, f, u, h⟩ := h
 have hr : ∀ k, RK s.trb u k → k < w.heap.size := fun k q => h.ltK (.inr (.inl q))
 refine ⟨ps, f, u, h.tr.call hb, h.rf.call hb, h.lo, (h.pr.fresh hb).mono (fun k q => ?_), h.ap, fun k q => ?_⟩
 ·rcases q with q | q | q | q
  ·exact .inl (.inl q)
  ·exact .inl (.inr (.inl q))
  ·exact .inl (.inr (.inr q))
  ·exact .inr q
 ·rcases q with q | q
  ·exact h.bs k q
  ·exact ⟨fun p => by have := h.tr.lt p; have := q.1; omega, fun p => by have := hr k p; have := q.1; omega⟩
theorem Bo.weak (h : BoS W s n L M l l2 K w) (ht : ∀ k, T k → K k) : BoS W s n L M l l2 T w := by
 obtain ⟨ps, f, u, h⟩ := h
 refine ⟨ps, f, u, h.tr, h.rf, h.lo, h.pr.mono (fun k q => ?_), h.ap, fun k q => h.bs k (ht k q)⟩
 rcases q with q | q | q
 ·exact .inl q
 ·exact .inr (.inl q)
 ·exact .inr (.inr (ht k q))
theorem Hd.fresh (h : Hd W s hb rhb n L M l l2 S w) (hB : Below w.heap.size w w') : Hd W s hb rhb n L M l l2 (fun k => S k ∨ New w w' k) w' := by
 have h1 := h.bo.fresh hB
 have h2 := h.call hB
 refine ⟨h1.weak (fun k q => ?_), h2.hd, h2.rh⟩
 rcases q with q | q | q | q
 ·exact .inl (.inl q)
 ·exact .inl (.inr (.inl q))
 ·exact .inl (.inr (.inr q))
 ·exact .inr q
theorem Hd.weak (h : Hd W s hb rhb n L M l l2 S w) (ht : ∀ k, T k → S k) : Hd W s hb rhb n L M l l2 T w :=
 ⟨h.bo.weak (fun k q => q.imp id (fun q => q.imp id (ht k))), h.hd, h.rh⟩
theorem Hd.lt (h : Hd W s hb rhb n L M l l2 S w) {k : Nat} (hk : S k) : k < w.heap.size := by
 obtain ⟨ps, f, u, hb⟩ := h.bo
 exact hb.ltK (.inr (.inr (.inr (.inr hk))))
theorem Hd.act {F : FuncId} {args : Array Value} {r : Value} (h : Hd W s hb rhb n L M l l2 S w) (hc : ∀ K, BoS W s n L M l l2 K w → Calls Tryz.prog F args w fun e w' => e = .returned r ∧ BoS W s n' L' M' l' l2' K w' ∧ SameK K w w') :
  Calls Tryz.prog F args w fun e w' => e = .returned r ∧ Hd W s hb rhb n' L' M' l' l2' S w' ∧ SameK S w w' :=
 (hc _ h.bo).mono fun e w' ⟨he, hB, hK⟩ => ⟨he, h.lift hB hK, fun k q => hK k (.inr (.inr q))⟩
structure Bx2 (w : World) (hb : Nat) (s : Sh) (o i : Int) (c : Cp) (sB cB : Nat) : Prop where
 h0 : w.cell? ⟨hb, 0, none⟩ = some (.pointer (some ⟨s.sb, 0, none⟩))
 h1 : w.cell? ⟨hb, 1, none⟩ = some (.pointer (some ⟨s.tb, 0, none⟩))
 k0 : w.cell? ⟨sB, 0, none⟩ = some (.int .i64 o)
 k1 : w.cell? ⟨sB, 1, none⟩ = some (.int .i64 i)
 x0 : w.cell? ⟨cB, 0, none⟩ = some (.int .i64 c.a)
 x1 : w.cell? ⟨cB, 1, none⟩ = some (.int .i64 c.b)
 x2 : w.cell? ⟨cB, 2, none⟩ = some (.int .i64 c.c)
 x3 : w.cell? ⟨cB, 3, none⟩ = some (.int .u64 c.d)
 x4 : w.cell? ⟨cB, 4, none⟩ = some (.int .i64 c.e)
 x5 : w.cell? ⟨cB, 5, none⟩ = some (.int .i64 c.f)
 x6 : w.cell? ⟨cB, 6, none⟩ = some (.int .i64 c.g)
 x7 : w.cell? ⟨cB, 7, none⟩ = some (.int .i64 c.h)
theorem Bx2.of {o i : Int} {c : Cp} {sB cB : Nat} (h : Hd W s hb rhb n L M l l2 S w) (hs : w.heap[sB]? = some (.cells #[.int .i64 o, .int .i64 i] 30 (0, 0))) (hc : w.heap[cB]? = some (.cells c.L.toArray 33 (0, 0))) : Bx2 w hb s o i c sB cB :=
 ⟨h.c.1, h.c.2.1, (slot_cells hs).1, (slot_cells hs).2, (cap_cells hc).1, (cap_cells hc).2.1, (cap_cells hc).2.2.1, (cap_cells hc).2.2.2.1, (cap_cells hc).2.2.2.2.1, (cap_cells hc).2.2.2.2.2.1, (cap_cells hc).2.2.2.2.2.2.1, (cap_cells hc).2.2.2.2.2.2.2⟩
end HdS
end
end Go.Proofs.YtchjfeafkmpmbaaGreatDoor
