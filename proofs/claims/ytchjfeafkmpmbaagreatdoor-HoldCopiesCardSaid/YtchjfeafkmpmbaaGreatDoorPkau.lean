import Derived.Test.YtchjfeafkmpmbaaGreatDoorPkat
namespace Go.Proofs.YtchjfeafkmpmbaaGreatDoor
set_option linter.unusedVariables false
set_option linter.unusedSimpArgs false
set_option maxRecDepth 100000
set_option maxHeartbeats 8000000
open Lib (hid)
section
open Go.ChangeShapes Go.WideShapes Go.ChangeAt Go.RowKit Go.Shelf
theorem nodsC_app (a b : List Nod) : nodsC (a ++ b) = nodsC a ++ nodsC b := by simp [nodsC]
theorem add_cell (g a j : Nat) : ((⟨g, a, none⟩ : Addr).add j) = ⟨g, a + j, none⟩ := by unfold Addr.add; split <;> simp_all
theorem pre_news {W : World} {rb g c n k : Nat} {l : List Nod} (h : RefT W rb (.slice (some ⟨g, 0, none⟩) n c) l) : ∀ j u, (nodsC (l.take k))[j]? = some u → W.cell? ((⟨g, 0, none⟩ : Addr).add j) = some u := by
 intro j u hj
 refine row_news h j u ?_
 have hjl := (lgs hj).1
 have e : nodsC l = nodsC (l.take k) ++ nodsC (l.drop k) := by rw [← nodsC_app, List.take_append_drop]
 rw [e, List.getElem?_append_left hjl]
 exact hj
theorem suf_news {W : World} {rb g c n k : Nat} {l : List Nod} (h : RefT W rb (.slice (some ⟨g, 0, none⟩) n c) l) (hk : k ≤ l.length) : ∀ j u, (nodsC (l.drop k))[j]? = some u → W.cell? ((⟨g, k * 3, none⟩ : Addr).add j) = some u := by
 intro j u hj
 have hlen : (nodsC (l.take k)).length = k * 3 := by rw [nodsC_len, List.length_take]; congr 1; omega
 have := row_news h (k * 3 + j) u (by
  have e : nodsC l = nodsC (l.take k) ++ nodsC (l.drop k) := by rw [← nodsC_app, List.take_append_drop]
  rw [e, List.getElem?_append_right (by omega), hlen, show k * 3 + j - k * 3 = j by omega]
  exact hj)
 rw [add_cell] at this ⊢
 rwa [Nat.zero_add] at this
theorem child_list {l : List Nod} {k : Nat} (x : Nod) (hk : k < l.length) : l.take (k + 1) ++ [x] ++ l.drop (k + 1) = l.insertIdx (k + 1) x := by
 apply List.ext_getElem?
 intro q
 rw [List.append_assoc]
 have h1 : (l.take (k + 1)).length = k + 1 := by rw [List.length_take]; omega
 rcases Nat.lt_trichotomy q (k + 1) with h | h | h
 ·rw [List.getElem?_append_left (by omega), ins_lo h, List.getElem?_take, if_pos h]
 ·subst h
  rw [List.getElem?_append_right (by omega), h1, Nat.sub_self, ins_at (by omega)]
  rfl
 ·rw [List.getElem?_append_right (by omega), h1]
  obtain ⟨r, rfl⟩ : ∃ r, q = r + 1 := ⟨q - 1, by omega⟩
  rw [ins_hi (by omega), show r + 1 - (k + 1) = (r - (k + 1)) + 1 by omega]
  rw [List.singleton_append, List.getElem?_cons_succ, List.getElem?_drop]
  congr 1; omega
attribute [-go_sem] Builtin.append_
theorem rchild_any (w : World) (rb : Nat) (v : Value) (l : List Nod) (o i p j : Int) (h : RefT w rb v l) (hlen : l.length < 1000) (hdp : ∀ x ∈ l, x.d < 1000) :
  Calls Tryz.prog 85 #[.pointer (some ⟨rb, 0, none⟩), slV o i, slV p j] w fun e w' => e = .returned (.int .i64 (childA l o i p j).2) ∧ (∃ u, RefT w' rb u (childA l o i p j).1) ∧ OnlyR rb w w' := by
 have hal : Below w.heap.size w ((w.alloc (slO o i)).alloc (slO p j)) := bal (bal (Below.refl _ _) _) _
 have HA := hid hal
 have HR := hid h
 have HBX := hid (bx2 w o i p j)
 unfold childA
 cases hk : idx l o i with
 | none =>
  have hat : atI l o i = -1 := by unfold atI; rw [hk]
  have HAT := hid hat
  simp only
  clear h hal hk hat
  go_enter Tryz.func85, Tryz.ntmps85
  go_wp2_with (go_at_call 95; with_reducible refine (rat_any _ rb v l o i (HR.out.call HA.out)).mono ?_; rw [HAT.out]; rintro e w1 ⟨rfl, hb1⟩)
  go_ret
  have hb := HA.out.trans (hb1.mono HA.out.size)
  exact ⟨rfl, ⟨_, HR.out.call hb⟩, .of_below hb⟩
 | some k =>
  obtain ⟨x, hx, hxs⟩ := idx_some hk
  have hkl := (lgs hx).1
  have hat : atI l o i = (k : Int) := by unfold atI; rw [hk]
  have HAT := hid hat
  have hle := h.le
  have hxd : ((l[k]?).map Nod.d).getD 0 = x.d := by rw [hx]; rfl
  simp only [hxd]
  have hkx : ¬ (k : Int) < 0 := by omega
  have hrl := (ags h.blk).1
  cases hk2 : idx l p j with
  | some k2 =>
   have hat2 : atI l p j = (k2 : Int) := by unfold atI; rw [hk2]
   have HAT2 := hid hat2
   simp only [Option.isSome_some, if_true]
   have hk2x : (0 : Int) ≤ k2 := by omega
   clear h hal hk hat hx hk2 hat2
   go_enter Tryz.func85, Tryz.ntmps85
   go_wp2_with (first
    | (go_at_call 95; with_reducible refine (rat_any _ rb v l p j (HR.out.call HB1.out)).mono ?_; rw [HAT2.out]; rintro e w2 ⟨rfl, hb2⟩; have HB2 := hid (HB1.out.trans (hb2.mono HB1.out.size)))
    | (go_at_call 95; with_reducible refine (rat_any _ rb v l o i (HR.out.call HA.out)).mono ?_; rw [HAT.out]; rintro e w1 ⟨rfl, hb1⟩; have HB1 := hid (HA.out.trans (hb1.mono HA.out.size)); obtain ⟨b0, b1, bz, bl, bb⟩ := HBX.out.2.call hb1; clear hb1 bb bz))
   go_ret
   exact ⟨rfl, ⟨_, HR.out.call HB2.out⟩, .of_below HB2.out⟩
  | none =>
   have hat2 : atI l p j = -1 := by unfold atI; rw [hk2]
   have HAT2 := hid hat2
   simp only [Option.isSome_none, Bool.false_eq_true, if_false]
   obtain ⟨i0, hi0, hz0, hz1, hz2⟩ := info_parts infoNd
   have HI0 := hid hi0
   obtain ⟨g, c, rfl, hg, hgr, hc⟩ := h.getg (by omega)
   have HX := hid hx
   have hdx := h.dep x (List.mem_of_getElem? hx)
   have hdx2 := hdp x (List.mem_of_getElem? hx)
   have hwr := IntWalk.i64_in (n := x.d + 1) (by omega)
   have HTL := hid (show (nodsC (l.take (k + 1))).length = (k + 1) * 3 ∧ (nodsC (l.drop (k + 1))).length = (l.length - (k + 1)) * 3 ∧ k < l.length ∧ l.length < 1000 from ⟨by rw [nodsC_len, List.length_take]; congr 1; omega, by rw [nodsC_len, List.length_drop], hkl, hlen⟩)
   have hk1 : (0 : Int) ≤ (k : Int) + 1 := by omega
   have hk2' : (k : Int) + 1 ≤ l.length := by omega
   have hcap : l.length ≤ c := by
    rcases h.row.2 with ⟨q, _⟩ | ⟨g', cap, cur, q, _, _, q4, _⟩
    ·cases q
    ·cases q; exact q4
   have hcap2 : (k : Int) + 1 ≤ c := by omega
   clear h hal hk hat hx hk2 hat2 hc hi0
   go_enter Tryz.func85, Tryz.ntmps85
   go_upto_region 7 with (first
    | (go_at_call 95; with_reducible refine (rat_any _ rb _ l p j (HR.out.call HB1.out)).mono ?_; rw [HAT2.out]; rintro e w2 ⟨rfl, hb2⟩; have HB2 := hid (HB1.out.trans (hb2.mono HB1.out.size)); have HBX2 := hid ((HBX.out.2.call HB1A.out).call hb2); clear hb2)
    | (go_at_call 95; with_reducible refine (rat_any _ rb _ l o i (HR.out.call HA.out)).mono ?_; rw [HAT.out]; rintro e w1 ⟨rfl, hb1⟩; have HB1A := hid hb1; have HB1 := hid (HA.out.trans (hb1.mono HA.out.size)); obtain ⟨b0, b1, bz, bl, bb⟩ := HBX.out.2.call hb1; clear hb1 bb bz))
   have HR2 := hid (HR.out.call HB2.out)
   obtain ⟨r0, rz⟩ := cell_box HR2.out.blk
   clear b0 b1
   have HCB := hid (pre_news (k := k + 1) HR2.out)
   go_upto_region 8 with (at_builtin; refine wpList_append_own _ rfl _ _ 41 rfl w.heap.size 44 i0 (.agg #[.int .i64 0, .int .i64 0, .int .i64 0]) 3 24 Tryz.underlying41 HI0.out hz0 hz1 hz2 rfl (by decide) (.slice none 0 0) 0 [] rfl (World.ownsRow_nil _ _ _ _) ⟨g, 0, none⟩ (k + 1) c (nodsC (l.take (k + 1))) rfl HTL.out.1 HCB.out nods_one (by unfold maxLen; omega) (by omega) HB2.out.size ?_; intro u' w3 hown hgrow _; rw [Nat.zero_add, List.nil_append] at hown; obtain ⟨g3, c3, rfl, hg3⟩ := row_form3 hown (by omega); have HOW := hid hown; have HGR := hid hgrow; clear hown hgrow)
   have hb3 : Below w.heap.size w w3 := HB2.out.grown HGR.out HB2.out.size (fun k e => by cases e)
   have hR3 := HR.out.call hb3
   obtain ⟨_, _, a2⟩ := nodsC_get l k x HX.out
   have x2 := row_news hR3 _ _ a2
   rw [add_cell, Nat.zero_add] at x2
   have hbx3 := bx_grown HBX2.out HGR.out (by simp [Value.ownBlock])
   have htl : (l.take (k + 1)).length = k + 1 := by rw [List.length_take]; have := HTL.out.2.2.1; omega
   have hown3 : ((w3.alloc (.cells #[.int .i64 p, .int .i64 j, .int .i64 (x.d + 1)] 44)).drew).ownsRow w.heap.size 44 3 (.slice (some ⟨g3, 0, none⟩) (k + 1) c3) (l.take (k + 1)).length (nodsC (l.take (k + 1))) := by
    rw [htl]
    exact HOW.out.alloc _
   have hbA : Below w.heap.size w ((w3.alloc (.cells #[.int .i64 p, .int .i64 j, .int .i64 (x.d + 1)] 44)).drew) := (bal hb3 _).drew
   obtain ⟨g4, c4, w4, hrun, hown4, hgr4⟩ := one_run (w := w) w3.heap.size ⟨p, j, x.d + 1⟩ hown3 (World.alloc_heap_new w3 _) (by rw [htl]; have := HTL.out.2.2; omega) hbA.size
   have hb4 : Below w.heap.size w w4 := hbA.grown hgr4 hbA.size (fun k e => (hown3.lt k e).1)
   have HR4 := hid (HR.out.call hb4)
   have HB4 := hid hb4
   have HOW4 := hid hown4
   have HSF := hid (suf_news (k := k + 1) HR4.out (by have := HTL.out.2.2.1; omega))
   obtain ⟨r3, rz3⟩ := cell_box hR3.blk
   obtain ⟨r4, rz4⟩ := cell_box HR4.out.blk
   obtain ⟨b0, b1, bl3⟩ := bx_all hbx3
   rw [htl] at hrun
   have hz3 : rb < w3.heap.size := Nat.lt_of_lt_of_le hrl hb3.size
   have hz3' : g < w3.heap.size := Nat.lt_of_lt_of_le hg hb3.size
   clear r0 rz hb3 hR3 hbx3 hown3 hbA hown4 hgr4 hb4 a2 htl
   go_region
   all_goals
    have htl : (l.take (k + 1) ++ [(⟨p, j, x.d + 1⟩ : Nod)]).length = k + 1 + 1 := by rw [List.length_append, List.length_take]; have := HTL.out.2.2.1; simp; omega
    have hown4 := HOW4.out
    have htk : (l.take (k + 1)).length = k + 1 := by rw [List.length_take]; have := HTL.out.2.2.1; omega
    rw [htl, htk] at hown4
    clear htk
    have HOW5 := hid hown4
    clear hown4
    have hsuf : ∃ u w5, (Builtin.append_ #[41, 41] 41 #[.slice (some ⟨g4, 0, none⟩) (k + 1 + 1) c4, if c = k + 1 then .slice (some ⟨g, 0, none⟩) (l.length - (k + 1)) 0 else .slice (some ⟨g, (k + 1) * 3, none⟩) (l.length - (k + 1)) (c - (k + 1))]).run Tryz.prog w4 = .ok u w5 ∧ w5.ownsRow w.heap.size 44 3 u (k + 1 + 1 + (l.length - (k + 1))) (nodsC (l.take (k + 1) ++ [(⟨p, j, x.d + 1⟩ : Nod)]) ++ nodsC (l.drop (k + 1))) ∧ w4.grownBy w5 (some g4) := by
     split
     ·rename_i hcc
      have hl0 : l.length - (k + 1) = 0 := by omega
      have hdr : l.drop (k + 1) = [] := List.drop_eq_nil_iff.2 (by omega)
      rw [hl0, hdr]
      obtain ⟨u, w5, q1, q2, q3, _⟩ := run_append_own_at (P := Tryz.prog) (w := w4) w.heap.size 41 41 44 i0 (.agg #[.int .i64 0, .int .i64 0, .int .i64 0]) 3 24 Tryz.underlying41 HI0.out hz0 hz1 hz2 rfl (by decide) (.slice (some ⟨g4, 0, none⟩) (k + 1 + 1) c4) (k + 1 + 1) _ HOW5.out ⟨g, 0, none⟩ 0 0 (nodsC []) rfl (fun j u hj => by simp [nodsC] at hj) nods_one (by unfold maxLen; omega) (by omega) HB4.out.size
      exact ⟨u, w5, q1, q2, q3⟩
     ·obtain ⟨u, w5, q1, q2, q3, _⟩ := run_append_own_at (P := Tryz.prog) (w := w4) w.heap.size 41 41 44 i0 (.agg #[.int .i64 0, .int .i64 0, .int .i64 0]) 3 24 Tryz.underlying41 HI0.out hz0 hz1 hz2 rfl (by decide) (.slice (some ⟨g4, 0, none⟩) (k + 1 + 1) c4) (k + 1 + 1) _ HOW5.out ⟨g, (k + 1) * 3, none⟩ (l.length - (k + 1)) (c - (k + 1)) (nodsC (l.drop (k + 1))) HTL.out.2.1 HSF.out nods_one (by unfold maxLen; omega) (by omega) HB4.out.size
      exact ⟨u, w5, q1, q2, q3⟩
    obtain ⟨u, w5, hrun5, hown5, hgr5⟩ := hsuf
    have hb5 : Below w.heap.size w w5 := HB4.out.grown hgr5 HB4.out.size (fun k e => by cases e; exact (HOW5.out.lt _ rfl).1)
    rw [← nodsC_app, child_list _ HTL.out.2.2.1] at hown5
    have hlen5 : (l.insertIdx (k + 1) (⟨p, j, x.d + 1⟩ : Nod)).length = k + 1 + 1 + (l.length - (k + 1)) := by
     rw [List.length_insertIdx]; split <;> omega
    obtain ⟨g5, c5, hu5, _⟩ := row_form3 hown5 (by omega)
    subst hu5
    obtain ⟨r5, rz5⟩ := cell_box (HR.out.call hb5).blk
    have HST := hid (HR.out.store hb5 (by rw [hlen5]; exact hown5) (by omega) (by
     intro y hy
     rcases List.mem_insertIdx (by omega) |>.1 hy with q | q
     ·subst q; simp; omega
     ·exact HR.out.dep y q))
    clear htl hown5 hgr5 hb5 hlen5
    by_cases hcc : c = k + 1
    ·rw [if_pos hcc] at hrun5
     go_wp2
     go_ret
     exact ⟨rfl, ⟨_, HST.out.1⟩, HST.out.2⟩
    ·rw [if_neg hcc] at hrun5
     go_wp2
     go_ret
     exact ⟨rfl, ⟨_, HST.out.1⟩, HST.out.2⟩
def RK (rb : Nat) (v : Value) (k : Nat) : Prop := k = rb ∨ KV v k
theorem RefT.kept {W W' : World} {rb : Nat} {v : Value} {l : List Nod} (h : RefT W rb v l) (hs : ∀ k, RK rb v k → W'.heap[k]? = W.heap[k]?) : RefT W' rb v l :=
 { h with
  blk := (hs rb (.inl rfl)).trans h.blk
  row := own_block h.row fun g hg => hs g (.inr hg) }
def NoNode (W : World) (k : Nat) : Prop := ∀ cs, W.heap[k]? ≠ some (.cells cs 44 (0, 0))
def PT (w0 W : World) (b m n rb : Nat) (l l2 : List Nod) (S : Nat → Prop) : Prop :=
 ∃ v, StK w0 b m n l (fun k => RK rb v k ∨ S k) W ∧ RefT W rb v l2 ∧ w0.heap.size ≤ rb ∧ ∀ k, S k → k ≠ rb ∧ v.ownBlock ≠ some k ∧ NoNode W k
end
section
open Go.ChangeShapes Go.WideShapes Go.ChangeAt Go.RowKit Go.Shelf
namespace HdS
open TabS (Cp Sn zC mayC sizS getR getN Two Pr FootP foot_ltP foot_ltR SameS AddRel addSR setN setM rowsS hasS)
theorem two_turned {W w w' : World} {b base : Nat} {tv : Value} {L : List Sn} {rb rbase : Nat} {v : Value} {M : List Sn} {S C T : Nat → Prop} (h : Two W w b base tv L rb rbase v M S) (o1 : w'.os = w.os) (o2 : w'.tape = w.tape) (o3 : w'.output = w.output) (hs : w.heap.size ≤ w'.heap.size) (hC : ∀ k, C k → S k ∧ W.heap.size ≤ k) (hb : ∀ k, k < w.heap.size → ¬ C k → w'.heap[k]? = w.heap[k]?) (hT : ∀ k, T k → k < w'.heap.size ∧ (S k ∨ w.heap.size ≤ k)) : Two W w' b base tv L rb rbase v M T := by
 refine ⟨h.pk.of hs (fun k q => hb k (foot_ltP h.pk q) (fun s => (h.bs k (hC k s).1).2.1 q)), h.rf.of hs (fun k q => hb k (foot_ltR h.rf q) (fun s => (h.bs k (hC k s).1).2.2 q)), h.lo, h.lr, ⟨o1.trans h.bl.os, o2.trans h.bl.tape, o3.trans h.bl.output, Nat.le_trans h.bl.size hs, fun k hk => (hb k (Nat.lt_of_lt_of_le hk h.bl.size) (fun s => by have := (hC k s).2; omega)).trans (h.bl.block k hk)⟩, h.ap, fun k hk => ?_⟩
 obtain ⟨h1, h2⟩ := hT k hk
 refine ⟨h1, fun p => ?_, fun p => ?_⟩
 ·rcases h2 with s | s
  ·exact (h.bs k s).2.1 p
  ·have := foot_ltP h.pk p; omega
 ·rcases h2 with s | s
  ·exact (h.bs k s).2.2 p
  ·have := foot_ltR h.rf p; omega
def Ft (b m : Nat) (ps : List Nat) (rb : Nat) (u : Value) (K : Nat → Prop) (k : Nat) : Prop := foot b m ps k ∨ RK rb u k ∨ K k
structure BoAt (W w : World) (sb srb tb m n trb : Nat) (L M : List Sn) (l l2 : List Nod) (K : Nat → Prop) (ps : List Nat) (f : Int → Int → Option Nat) (u : Value) : Prop where
 tr : TreeAt w W.heap.size tb m n ps l f
 rf : RefT w trb u l2
 lo : W.heap.size ≤ trb
 pr : Pr W w sb srb (Ft tb m ps trb u K) L M
 ap : ∀ k, RK trb u k → ¬ foot tb m ps k
 bs : ∀ k, K k → ¬ foot tb m ps k ∧ ¬ RK trb u k
def Bo (W w : World) (sb srb tb m n trb : Nat) (L M : List Sn) (l l2 : List Nod) (K : Nat → Prop) : Prop := ∃ ps f u, BoAt W w sb srb tb m n trb L M l l2 K ps f u
theorem BoAt.slots {W w w' : World} {sb srb tb m n trb : Nat} {L M L' M' : List Sn} {l l2 : List Nod} {K : Nat → Prop} {ps : List Nat} {f : Int → Int → Option Nat} {u : Value} (h : BoAt W w sb srb tb m n trb L M l l2 K ps f u) (hS : Pr W w' sb srb (Ft tb m ps trb u K) L' M') (hk : TabS.SameK (Ft tb m ps trb u K) w w') : Bo W w' sb srb tb m n trb L' M' l l2 K ∧ SameK K w w' :=
 ⟨⟨ps, f, u, h.tr.of_blocks (fun k q => hk k (.inl q)), h.rf.kept (fun k q => hk k (.inr (.inl q))), h.lo, hS, h.ap, h.bs⟩, fun k q => hk k (.inr (.inr q))⟩
theorem BoAt.ltK {W w : World} {sb srb tb m n trb : Nat} {L M : List Sn} {l l2 : List Nod} {K : Nat → Prop} {ps : List Nat} {f : Int → Int → Option Nat} {u : Value} (h : BoAt W w sb srb tb m n trb L M l l2 K ps f u) {k : Nat} (hk : Ft tb m ps trb u K k) : k < w.heap.size := h.pr.lt hk
theorem BoAt.tree {W w w' : World} {sb srb tb m n n' trb : Nat} {L M : List Sn} {l l2 l' : List Nod} {K : Nat → Prop} {ps ps' : List Nat} {f f' : Int → Int → Option Nat} {u : Value} (h : BoAt W w sb srb tb m n trb L M l l2 K ps f u) (hT : TreeAt w' W.heap.size tb m n' ps' l' f') (hO : TOnly w w' tb m ps ps') : Bo W w' sb srb tb m n' trb L M l' l2 K ∧ SameK K w w' := by
 have hr : ∀ k, RK trb u k → w'.heap[k]? = w.heap[k]? := fun k q => hO.block k (h.ltK (.inr (.inl q))) (h.ap k q)
 have hK : SameK K w w' := fun k q => hO.block k (h.ltK (.inr (.inr q))) (h.bs k q).1
 have hf : ∀ k, k < w.heap.size → ¬ foot tb m ps k → ¬ foot tb m ps' k := fun k h1 h2 h3 => h2 (hO.foot k h1 h3)
 obtain ⟨base, tv, rbase, v, hTw⟩ := h.pr
 refine ⟨⟨ps', f', u, hT, h.rf.kept hr, h.lo, ⟨base, tv, rbase, v, two_turned (C := foot tb m ps) hTw hO.os hO.tape hO.output hO.size (fun k q => ⟨.inl q, h.tr.ge q⟩) hO.block (fun k q => ?_)⟩, fun k q => hf k (h.ltK (.inr (.inl q))) (h.ap k q), fun k q => ⟨hf k (h.ltK (.inr (.inr q))) (h.bs k q).1, (h.bs k q).2⟩⟩, hK⟩
 rcases q with q | q
 ·refine ⟨hT.lt q, ?_⟩
  by_cases hk : k < w.heap.size
  ·exact .inl (.inl (hO.foot k hk q))
  ·exact .inr (by omega)
 ·exact ⟨Nat.lt_of_lt_of_le (h.ltK (.inr q)) hO.size, .inl (.inr q)⟩
theorem BoAt.ref {W w w' : World} {sb srb tb m n trb : Nat} {L M : List Sn} {l l2 l2' : List Nod} {K : Nat → Prop} {ps : List Nat} {f : Int → Int → Option Nat} {u u' : Value} (h : BoAt W w sb srb tb m n trb L M l l2 K ps f u) (hR : RefT w' trb u' l2') (hO : OnlyR trb w w') : Bo W w' sb srb tb m n trb L M l l2' K ∧ SameK K w w' := by
 have hrb := h.ltK (.inr (.inl (.inl rfl)))
 have hown : ∀ g, u'.ownBlock = some g → u.ownBlock = some g ∨ w.heap.size ≤ g := fun g q => by
  rcases hO.own hrb g ⟨u', (cell_box hR.blk).1, q⟩ with ⟨v, e, z⟩ | z
  ·rw [(cell_box h.rf.blk).1] at e
   cases e
   exact .inl z
  ·exact .inr z
 have hK : SameK K w w' := fun k q => hO.block k (h.ltK (.inr (.inr q))) (fun e => (h.bs k q).2 (.inl e))
 have hne : ∀ k, foot tb m ps k → k ≠ trb := fun k q e => h.ap trb (.inl rfl) (e ▸ q)
 obtain ⟨base, tv, rbase, v, hTw⟩ := h.pr
 refine ⟨⟨ps, f, u', h.tr.of_blocks (fun k q => hO.block k (h.tr.lt q) (hne k q)), hR, h.lo, ⟨base, tv, rbase, v, two_turned (C := fun k => k = trb) hTw hO.os hO.tape hO.output hO.size (fun k q => ⟨.inr (.inl (.inl q)), q ▸ h.lo⟩) hO.block (fun k q => ?_)⟩, fun k q => ?_, fun k q => ⟨(h.bs k q).1, fun z => ?_⟩⟩, hK⟩
 ·rcases q with q | (q | q) | q
  ·exact ⟨Nat.lt_of_lt_of_le (h.tr.lt q) hO.size, .inl (.inl q)⟩
  ·exact ⟨q ▸ Nat.lt_of_lt_of_le hrb hO.size, .inl (.inr (.inl (.inl q)))⟩
  ·refine ⟨(hR.row.lt k q).2, ?_⟩
   rcases hown k q with z | z
   ·exact .inl (.inr (.inl (.inr z)))
   ·exact .inr z
  ·exact ⟨Nat.lt_of_lt_of_le (h.ltK (.inr (.inr q))) hO.size, .inl (.inr (.inr q))⟩
 ·rcases q with q | q
  ·exact h.ap k (.inl q)
  ·rcases hown k q with z | z
   ·exact h.ap k (.inr z)
   ·exact fun p => by have := h.tr.lt p; omega
 ·rcases z with z | z
  ·exact (h.bs k q).2 (.inl z)
  ·rcases hown k z with y | y
   ·exact (h.bs k q).2 (.inr y)
   ·have := h.ltK (.inr (.inr q)); omega
theorem Bo.call {W w w' : World} {sb srb tb m n trb : Nat} {L M : List Sn} {l l2 : List Nod} {K : Nat → Prop} (h : Bo W w sb srb tb m n trb L M l l2 K) (hb : Below w.heap.size w w') : Bo W w' sb srb tb m n trb L M l l2 K ∧ SameK K w w' := by
 obtain ⟨ps, f, u, h⟩ := h
 exact h.slots (h.pr.call hb) (fun k q => hb.block k (h.ltK q))
theorem Bo.below {W w : World} {sb srb tb m n trb : Nat} {L M : List Sn} {l l2 : List Nod} {K : Nat → Prop} (h : Bo W w sb srb tb m n trb L M l l2 K) : Below W.heap.size W w := by
 obtain ⟨ps, f, u, h⟩ := h
 exact h.pr.below
theorem Bo.mono {W w : World} {sb srb tb m n n' trb : Nat} {L M : List Sn} {l l2 : List Nod} {K : Nat → Prop} (h : Bo W w sb srb tb m n trb L M l l2 K) (hn : n ≤ n') : Bo W w sb srb tb m n' trb L M l l2 K := by
 obtain ⟨ps, f, u, h⟩ := h
 exact ⟨ps, f, u, h.tr.mono hn, h.rf, h.lo, h.pr, h.ap, h.bs⟩
end HdS
end
section
open Go.ChangeShapes Go.WideShapes Go.ChangeAt Go.RowKit Go.Shelf
namespace HdS
open TabS (Cp Sn zC mayC sizS getR getN Two Pr FootP foot_ltP foot_ltR SameS AddRel addSR setN setM rowsS hasS dropSR dropSL heldA hdsC)
structure Sh where
 sb : Nat
 srb : Nat
 tb : Nat
 m : Nat
 trb : Nat
abbrev BoS (W : World) (s : Sh) (n : Nat) (L M : List Sn) (l l2 : List Nod) (K : Nat → Prop) (w : World) : Prop := Bo W w s.sb s.srb s.tb s.m n s.trb L M l l2 K
variable {W w : World} {s : Sh} {n : Nat} {L M : List Sn} {l l2 : List Nod} {K : Nat → Prop}
theorem Bo.sl {F : FuncId} {args : Array Value} {Q : Ending → List Sn → List Sn → Prop} (h : BoS W s n L M l l2 K w) (hc : ∀ S : Nat → Prop, Pr W w s.sb s.srb S L M → Calls Tryz.prog F args w fun e w' => ∃ L' M', Q e L' M' ∧ Pr W w' s.sb s.srb S L' M' ∧ TabS.SameK S w w') :
  Calls Tryz.prog F args w fun e w' => ∃ L' M', Q e L' M' ∧ BoS W s n L' M' l l2 K w' ∧ SameK K w w' := by
 obtain ⟨ps, f, u, h⟩ := h
 refine (hc _ h.pr).mono ?_
 rintro e w' ⟨L', M', hq, hS, hk⟩
 exact ⟨L', M', hq, h.slots hS hk⟩
theorem Bo.tree {F : FuncId} {args : Array Value} {n' : Nat} {l' : List Nod} {r : Value} (h : BoS W s n L M l l2 K w) (hc : ∀ ps f, TreeAt w W.heap.size s.tb s.m n ps l f → Calls Tryz.prog F args w fun e w' => e = .returned r ∧ Left w w' W.heap.size s.tb s.m n' ps l') :
  Calls Tryz.prog F args w fun e w' => e = .returned r ∧ BoS W s n' L M l' l2 K w' ∧ SameK K w w' := by
 obtain ⟨ps, f, u, h⟩ := h
 refine (hc ps f h.tr).mono ?_
 rintro e w' ⟨he, ps', f', hT, hO⟩
 exact ⟨he, h.tree hT hO⟩
theorem Bo.rf {F : FuncId} {args : Array Value} {l2' : List Nod} {r : Value} (h : BoS W s n L M l l2 K w) (hc : ∀ v, RefT w s.trb v l2 → Calls Tryz.prog F args w fun e w' => e = .returned r ∧ (∃ u, RefT w' s.trb u l2') ∧ OnlyR s.trb w w') :
  Calls Tryz.prog F args w fun e w' => e = .returned r ∧ BoS W s n L M l l2' K w' ∧ SameK K w w' := by
 obtain ⟨ps, f, u, h⟩ := h
 refine (hc u h.rf).mono ?_
 rintro e w' ⟨he, ⟨u', hR⟩, hO⟩
 exact ⟨he, h.ref hR hO⟩
theorem Bo.set (h : BoS W s n L M l l2 K w) (hT0 : CX.TabG W) (id ix : Int) (c : Cp) (he : c.e ≤ 9223372036854775807) :
  Calls Tryz.prog 71 #[.pointer (some ⟨s.sb, 0, none⟩), .agg #[.int .i64 id, .int .i64 ix], c.V] w fun e w' => e = .returned (.int .i64 (setN L id ix c)) ∧ BoS W s n (setM L id ix c) M l l2 K w' ∧ SameK K w w' := by
 refine (h.sl (Q := fun e L' M' => e = .returned (.int .i64 (setN L id ix c)) ∧ L' = setM L id ix c ∧ M' = M) (fun S hp => (hp.setP (hT0.call hp.below) id ix c he).mono fun e w' ⟨he, hS, hk⟩ => ⟨_, _, ⟨he, rfl, rfl⟩, hS, hk⟩)).mono ?_
 rintro e w' ⟨_, _, ⟨he, rfl, rfl⟩, h1, h2⟩
 exact ⟨he, h1, h2⟩
theorem Bo.rset (h : BoS W s n L M l l2 K w) (hA : Asc (rowsS M)) (hl : M.length < 1000000) (id ix : Int) (c : Cp) :
  Calls Tryz.prog 82 #[.pointer (some ⟨s.srb, 0, none⟩), .agg #[.int .i64 id, .int .i64 ix], c.V] w fun e w' => e = .returned (.int .i64 (setN M id ix c)) ∧ BoS W s n L (setM M id ix c) l l2 K w' ∧ SameK K w w' := by
 refine (h.sl (Q := fun e L' M' => e = .returned (.int .i64 (setN M id ix c)) ∧ L' = L ∧ M' = setM M id ix c) (fun S hp => (hp.rset hA hl id ix c).mono fun e w' ⟨he, hS, hk⟩ => ⟨_, _, ⟨he, rfl, rfl⟩, hS, hk⟩)).mono ?_
 rintro e w' ⟨_, _, ⟨he, rfl, rfl⟩, h1, h2⟩
 exact ⟨he, h1, h2⟩
theorem Bo.add (h : BoS W s n L M l l2 K w) (hl : L.length < 1000000) (id k : Int) :
  Calls Tryz.prog 75 #[.pointer (some ⟨s.sb, 0, none⟩), .int .i64 id, .int .i64 k] w fun e w' => e = .returned (.int .i64 (addSR L id k)) ∧ ∃ L', AddRel L id k L' ∧ BoS W s n L' M l l2 K w' ∧ SameK K w w' := by
 refine (h.sl (Q := fun e L' M' => e = .returned (.int .i64 (addSR L id k)) ∧ AddRel L id k L' ∧ M' = M) (fun S hp => (hp.addP hl id k).mono fun e w' ⟨he, L', hr, hS, hk⟩ => ⟨L', _, ⟨he, hr, rfl⟩, hS, hk⟩)).mono ?_
 rintro e w' ⟨L', _, ⟨he, hr, rfl⟩, h1, h2⟩
 exact ⟨he, L', hr, h1, h2⟩
theorem Bo.radd (h : BoS W s n L M l l2 K w) (hA : Asc (rowsS M)) (hl : M.length < 1000000) (id k : Int) :
  Calls Tryz.prog 32 #[.pointer (some ⟨s.srb, 0, none⟩), .int .i64 id, .int .i64 k] w fun e w' => e = .returned (.int .i64 (addSR M id k)) ∧ ∃ M', AddRel M id k M' ∧ BoS W s n L M' l l2 K w' ∧ SameK K w w' := by
 refine (h.sl (Q := fun e L' M' => e = .returned (.int .i64 (addSR M id k)) ∧ AddRel M id k M' ∧ L' = L) (fun S hp => (hp.addR hA hl id k).mono fun e w' ⟨he, M', hr, hS, hk⟩ => ⟨_, M', ⟨he, hr, rfl⟩, hS, hk⟩)).mono ?_
 rintro e w' ⟨_, M', ⟨he, hr, rfl⟩, h1, h2⟩
 exact ⟨he, M', hr, h1, h2⟩
theorem Bo.drop (h : BoS W s n L M l l2 K w) (id : Int) :
  Calls Tryz.prog 94 #[.pointer (some ⟨s.sb, 0, none⟩), .int .i64 id] w fun e w' => e = .returned (.int .i64 (dropSR L id)) ∧ BoS W s n (dropSL L id) M l l2 K w' ∧ SameK K w w' := by
 refine (h.sl (Q := fun e L' M' => e = .returned (.int .i64 (dropSR L id)) ∧ L' = dropSL L id ∧ M' = M) (fun S hp => (hp.dropP id).mono fun e w' ⟨he, hS, hk⟩ => ⟨_, _, ⟨he, rfl, rfl⟩, hS, hk⟩)).mono ?_
 rintro e w' ⟨_, _, ⟨he, rfl, rfl⟩, h1, h2⟩
 exact ⟨he, h1, h2⟩
theorem Bo.rdrop (h : BoS W s n L M l l2 K w) (hA : Asc (rowsS M)) (hl : M.length < 1000000) (id : Int) :
  Calls Tryz.prog 46 #[.pointer (some ⟨s.srb, 0, none⟩), .int .i64 id] w fun e w' => e = .returned (.int .i64 (dropSR M id)) ∧ BoS W s n L (dropSL M id) l l2 K w' ∧ SameK K w w' := by
 refine (h.sl (Q := fun e L' M' => e = .returned (.int .i64 (dropSR M id)) ∧ L' = L ∧ M' = dropSL M id) (fun S hp => (hp.dropRf hA hl id).mono fun e w' ⟨he, hS, hk⟩ => ⟨_, _, ⟨he, rfl, rfl⟩, hS, hk⟩)).mono ?_
 rintro e w' ⟨_, _, ⟨he, rfl, rfl⟩, h1, h2⟩
 exact ⟨he, h1, h2⟩
theorem Bo.get (h : BoS W s n L M l l2 K w) (id ix : Int) :
  Calls Tryz.prog 66 #[.pointer (some ⟨s.sb, 0, none⟩), .agg #[.int .i64 id, .int .i64 ix]] w fun e w' => e = .returned (.tuple #[((getR L id ix).getD zC).V, .int .i64 (getN (getR L id ix))]) ∧ Below w.heap.size w w' := by
 obtain ⟨ps, f, u, h⟩ := h
 exact h.pr.getP id ix
theorem Bo.rget (h : BoS W s n L M l l2 K w) (hA : Asc (rowsS M)) (hl : M.length < 1000000) (id ix : Int) :
  Calls Tryz.prog 47 #[.pointer (some ⟨s.srb, 0, none⟩), .agg #[.int .i64 id, .int .i64 ix]] w fun e w' => e = .returned (.tuple #[((getR M id ix).getD zC).V, .int .i64 (getN (getR M id ix))]) ∧ Below w.heap.size w w' := by
 obtain ⟨ps, f, u, h⟩ := h
 exact h.pr.rget hA hl id ix
theorem Bo.rhas (h : BoS W s n L M l l2 K w) (hA : Asc (rowsS M)) (hl : M.length < 1000000) (id ix : Int) :
  Calls Tryz.prog 79 #[.pointer (some ⟨s.srb, 0, none⟩), .agg #[.int .i64 id, .int .i64 ix]] w fun e w' => e = .returned (.bool (getR M id ix).isSome) ∧ Below w.heap.size w w' := by
 obtain ⟨ps, f, u, h⟩ := h
 obtain ⟨base, tv, rbase, v, hT⟩ := h.pr
 rcases TabS.slot_orR hA id ix with ⟨hn, e⟩ | ⟨x, i, c, hF, rfl, hc, e⟩
 ·rw [e]
  exact TabS.rhas_no w s.srb rbase v M id ix hT.rf hl hn
 ·rw [e]
  exact TabS.rhas_yes w s.srb rbase v M id i _ x hT.rf hl hF (lgs hc).1
theorem Bo.used (h : BoS W s n L M l l2 K w) (hl : L.length < 1000000) :
  Calls Tryz.prog 52 #[.pointer (some ⟨s.sb, 0, none⟩)] w fun e w' => ∃ r, e = .returned r ∧ w'.ownsRow w.heap.size 46 10 r (heldA L).length (hdsC (heldA L)) ∧ Below w.heap.size w w' := by
 obtain ⟨ps, f, u, h⟩ := h
 exact h.pr.used hl
theorem Bo.root (h : BoS W s n L M l l2 K w) (o i : Int) (ho : InS o) (hi : InS i) (hn : n < 1000000) :
  Calls Tryz.prog 77 #[.pointer (some ⟨s.tb, 0, none⟩), slV o i] w fun e w' => e = .returned (.int .i64 (rootA l o i).2) ∧ BoS W s (n + 1) L M (rootA l o i).1 l2 K w' ∧ SameK K w w' :=
 h.tree fun ps f hT => root_any w W.heap.size s.tb s.m n ps l f o i ho hi hT (by unfold maxLen; omega) h.below.size
theorem Bo.child (h : BoS W s n L M l l2 K w) (o i p j : Int) (ho : InS o) (hi : InS i) (hp : InS p) (hj : InS j) (hn : n < 1000000) :
  Calls Tryz.prog 84 #[.pointer (some ⟨s.tb, 0, none⟩), slV o i, slV p j] w fun e w' => e = .returned (.int .i64 (childA l o i p j).2) ∧ BoS W s (n + 1) L M (childA l o i p j).1 l2 K w' ∧ SameK K w w' :=
 h.tree fun ps f hT => child_any w W.heap.size s.tb s.m n ps l f o i p j ho hi hp hj hT hn h.below.size
theorem Bo.remove (h : BoS W s n L M l l2 K w) (o i : Int) (ho : InS o) (hi : InS i) (hn : n < 1000000) :
  Calls Tryz.prog 72 #[.pointer (some ⟨s.tb, 0, none⟩), slV o i] w fun e w' => e = .returned (.int .i64 (removeA l o i).2) ∧ BoS W s (n + 1) L M (removeA l o i).1 l2 K w' ∧ SameK K w w' :=
 h.tree fun ps f hT => remove_any w W.heap.size s.tb s.m n ps l f o i ho hi hT hn
theorem Bo.swap (h : BoS W s n L M l l2 K w) (o i p j : Int) (ho : InS o) (hi : InS i) (hp : InS p) (hj : InS j) (hn : n < 1000000) :
  Calls Tryz.prog 91 #[.pointer (some ⟨s.tb, 0, none⟩), slV o i, slV p j] w fun e w' => e = .returned (.int .i64 0) ∧ BoS W s (n + 2) L M (swapA l o i p j) l2 K w' ∧ SameK K w w' :=
 h.tree fun ps f hT => swap_any w W.heap.size s.tb s.m n ps l f o i p j ho hi hp hj hT hn
theorem Bo.rroot (h : BoS W s n L M l l2 K w) (o i : Int) (hlen : l2.length < 1000) :
  Calls Tryz.prog 83 #[.pointer (some ⟨s.trb, 0, none⟩), slV o i] w fun e w' => e = .returned (.int .i64 (rootA l2 o i).2) ∧ BoS W s n L M l (rootA l2 o i).1 K w' ∧ SameK K w w' :=
 h.rf fun v hR => rroot_any w s.trb v l2 o i hR hlen
theorem Bo.rchild (h : BoS W s n L M l l2 K w) (o i p j : Int) (hlen : l2.length < 1000) (hd : ∀ x ∈ l2, x.d < 1000) :
  Calls Tryz.prog 85 #[.pointer (some ⟨s.trb, 0, none⟩), slV o i, slV p j] w fun e w' => e = .returned (.int .i64 (childA l2 o i p j).2) ∧ BoS W s n L M l (childA l2 o i p j).1 K w' ∧ SameK K w w' :=
 h.rf fun v hR => rchild_any w s.trb v l2 o i p j hR hlen hd
theorem Bo.rremove (h : BoS W s n L M l l2 K w) (o i : Int) (hD : Dep l2) :
  Calls Tryz.prog 93 #[.pointer (some ⟨s.trb, 0, none⟩), slV o i] w fun e w' => e = .returned (.int .i64 (removeA l2 o i).2) ∧ BoS W s n L M l (removeA l2 o i).1 K w' ∧ SameK K w w' :=
 h.rf fun v hR => rremove_any w s.trb v l2 o i hR hD
theorem Bo.rmove (h : BoS W s n L M l l2 K w) (o i p j : Int) (hO : Once l2) :
  Calls Tryz.prog 90 #[.pointer (some ⟨s.trb, 0, none⟩), slV o i, slV p j] w fun e w' => e = .returned (.int .i64 (moveA l2 o i p j).2) ∧ BoS W s n L M l (moveA l2 o i p j).1 K w' ∧ SameK K w w' :=
 h.rf fun v hR => rmove_any w s.trb v l2 o i p j hR hO
theorem Bo.rswap (h : BoS W s n L M l l2 K w) (o i p j : Int) (hO : Once l2) :
  Calls Tryz.prog 92 #[.pointer (some ⟨s.trb, 0, none⟩), slV o i, slV p j] w fun e w' => e = .returned (.tuple #[]) ∧ BoS W s n L M l (swapA l2 o i p j) K w' ∧ SameK K w w' :=
 h.rf fun v hR => rswap_any w s.trb v l2 o i p j hR hO
theorem Bo.under (h : BoS W s n L M l l2 K w) (o i : Int) (ho : InS o) (hi : InS i) (hn : n < 1000000) :
  Calls Tryz.prog 67 #[.pointer (some ⟨s.tb, 0, none⟩), slV o i] w fun e w' => ∃ v, e = .returned v ∧ w'.ownsRow w.heap.size 30 2 v (belowA l o i).length (slsC (belowA l o i)) ∧ Below w.heap.size w w' := by
 obtain ⟨ps, f, u, h⟩ := h
 exact below_any w W.heap.size s.tb s.m n ps l f o i ho hi h.tr hn
theorem Bo.all (h : BoS W s n L M l l2 K w) (hn : n < 1000000) :
  Calls Tryz.prog 56 #[.pointer (some ⟨s.tb, 0, none⟩)] w fun e w' => ∃ v, e = .returned v ∧ w'.ownsRow w.heap.size 44 3 v l.length (nodsC l) ∧ Below w.heap.size w w' := by
 obtain ⟨ps, f, u, h⟩ := h
 exact all_any w W.heap.size s.tb s.m n ps l f h.tr hn
end HdS
end
end Go.Proofs.YtchjfeafkmpmbaaGreatDoor
