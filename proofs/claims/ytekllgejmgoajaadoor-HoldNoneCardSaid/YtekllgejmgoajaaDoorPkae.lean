import Derived.Test.YtekllgejmgoajaaDoorPkad
namespace Go.Proofs.YtekllgejmgoajaaDoor
set_option linter.unusedVariables false
set_option linter.unusedSimpArgs false
set_option maxRecDepth 100000
set_option maxHeartbeats 8000000
open Lib (hid)
section
open Go.ChangeShapes Go.WideShapes Go.ChangeAt Go.RowKit
namespace TabS
theorem zeros_len (k : Nat) : (Builtin.zeroCells (Value.cells (.agg #[.int .i64 0, .slice none 0 0])) k).toList.length = k * 2 := by
 rw [Array.length_toList, size_zeroCells]
 rfl
theorem ins_grow (w : World) (base g cap p : Nat) (R : List Rw) (D : List Value) (r : Rw) (nb : Nat) (hw : Wide 2 R) (hr : Wide 2 [r]) (hl : R.length ≤ 1000000) (hp : p < R.length) (hle : R.length ≤ cap) (hcap : cap < R.length + 1) (hbw : base ≤ w.heap.size)
  (hg : w.heap[g]? = some (.cells (flat R ++ D).toArray 115 (0, 0)))
  (hn : w.heap[nb]? = some (.cells (rcells r).toArray 115 (0, 0))) :
  Calls Tryd.prog 71 #[.slice (some ⟨g, 0, none⟩) R.length cap, .int .i64 p, .slice (some ⟨nb, 0, none⟩) 1 1] w fun e w' => ∃ v', e = .returned v' ∧ InsPost w w' base (.slice (some ⟨g, 0, none⟩) R.length cap) v' (R.take p ++ r :: R.drop p) := by
 obtain ⟨i0, hi, hz0, hz1, hz2⟩ := info_parts infoR
 have hlr : (rcells r).length = 2 := (hr r (by simp)).1
 have h1 : ∀ u ∈ rcells r, u.oneCell' = true := (hr r (by simp)).2
 have hcur : flat R ++ D = flat (R.take p) ++ (flat (R.drop p) ++ D) := by
  rw [← List.append_assoc, ← flat_append, List.take_append_drop]
 have lA : (flat (R.take p)).length = p * 2 := by rw [flat_length (hw.take p), List.length_take, Nat.min_eq_left (by omega)]
 have lX : (flat (R.drop p)).length = (R.length - p) * 2 := by rw [flat_length (hw.drop p), List.length_drop]
 have oX := flat_one (hw.drop p)
 have e2 : (R.take p ++ r :: R.drop p).length = R.length + 1 := by simp; omega
 have e1 : flat (R.take p ++ r :: R.drop p) = flat (R.take p) ++ (rcells r ++ flat (R.drop p)) := by rw [flat_append, flat_cons]
 rw [hcur] at hg
 unfold InsPost
 rw [e1, e2]
 generalize flat (R.take p) = A at *
 generalize flat (R.drop p) = X at *
 generalize R.length = n at *
 clear hcur e1 e2 hw hr
 generalize hY : rcells r = Y at *
 clear hY
 obtain rfl : cap = n := by omega
 have hgl : g < w.heap.size := (ags hg).1
 have hnl : nb < w.heap.size := (ags hn).1
 have hlt : (p : Int) < cap := by omega
 have hpn : ¬ (p : Int) = cap := by omega
 have hcc : (cap : Int) < (cap : Int) + 1 := by omega
 have hc0 : ¬ cap = p := by omega
 have ha1 : ∀ j u, A[j]? = some u → w.drew.cell? ((⟨g, 0, none⟩ : Addr).add j) = some u := add_cells (fun j u hj => by
  rw [cell_cur (w := w.drew) hg, List.getElem?_append_left (lgs hj).1]
  exact hj)
 have hap := Lib.run_append_grow_zeros (P := Tryd.prog) w 86 3 86 115 i0 (.agg #[.int .i64 0, .slice none 0 0]) .i64 .i64 Tryd.underlying86 Tryd.underlying3 hi hz0 (some ⟨g, 0, none⟩) p cap A
  (run_firstCells_some (P := Tryd.prog) w.drew i0.size p ⟨g, 0, none⟩ p cap A (by rw [lA, hz1]) ha1) (cap + 1 - p) (by omega) (by rw [hz1]; omega) (by omega) (by omega) (by rw [hz2]; omega) (by rw [hz2]; exact growslice_fits (by omega) (by omega))
 have hk1 : p + (cap + 1 - p) = cap + 1 := by omega
 have hk2 : ((cap + 1 - p : Nat) : Int) = (cap : Int) + 1 - (p : Int) := by omega
 rw [hk1, hk2] at hap
 have hgc1 := grownCap_ge w (cap + 1) cap 115
 have hgc2 : grownCap w (cap + 1) cap 115 ≤ maxLen := grownCap_le_maxLen w (cap + 1) cap 115 (by unfold maxLen; omega)
 generalize grownCap w (cap + 1) cap 115 = gc at hap hgc1 hgc2
 obtain ⟨Z1, hZ1⟩ : ∃ L, L = (Builtin.zeroCells (Value.cells (.agg #[.int .i64 0, .slice none 0 0])) (cap + 1 - p)).toList := ⟨_, rfl⟩
 obtain ⟨Z2, hZ2⟩ : ∃ L, L = (Builtin.zeroCells (Value.cells (.agg #[.int .i64 0, .slice none 0 0])) (gc - (cap + 1))).toList := ⟨_, rfl⟩
 have lZ1 : Z1.length = (cap + 1 - p) * 2 := by rw [hZ1]; exact zeros_len _
 have lZ2 : Z2.length = (gc - (cap + 1)) * 2 := by rw [hZ2]; exact zeros_len _
 have hLz : A.toArray ++ Builtin.zeroCells (Value.cells (.agg #[.int .i64 0, .slice none 0 0])) (cap + 1 - p) ++ Builtin.zeroCells (Value.cells (.agg #[.int .i64 0, .slice none 0 0])) (gc - (cap + 1)) = (A ++ (Z1 ++ Z2)).toArray := by
  apply Array.ext'
  simp [hZ1, hZ2]
 rw [hLz] at hap
 clear hZ1 hZ2 hLz
 obtain ⟨w1, hw1⟩ : ∃ x, x = w.drew.alloc (.cells (A ++ (Z1 ++ Z2)).toArray 115) := ⟨_, rfl⟩
 rw [← hw1] at hap
 have hG1 : w1.heap[w.heap.size]? = some (.cells (A ++ (Z1 ++ Z2)).toArray 115 (0, 0)) := by rw [hw1]; exact heap_alloc_new w.drew _
 have hO1 : ∀ k, k < w.heap.size → w1.heap[k]? = w.heap[k]? := fun k hk => by rw [hw1]; exact heap_alloc_old w.drew _ hk
 have hgr1 : w.grownBy w1 (some g) := by rw [hw1]; exact grown_trans (⟨rfl, rfl, rfl, Nat.le_refl _, fun _ _ _ => rfl⟩ : w.grownBy w.drew (some g)) (World.grownBy_alloc _ _ _)
 generalize hG : w.heap.size = G at *
 have hg1 := (hO1 g hgl).trans hg
 have hn1 := (hO1 nb hnl).trans hn
 have hy1 : ∀ j u, Y[j]? = some u → w1.cell? ((⟨nb, 0, none⟩ : Addr).add j) = some u := add_cells (fun j u hj => by rw [cell_cur hn1]; exact hj)
 have hn1' : ∀ s d : Nat, s = 1 → d = cap + 1 - p → Y.length = Nat.min s d * i0.size := by
  intro s d hs hd
  rw [hlr, hz1, hs, hd, show Nat.min 1 (cap + 1 - p) = 1 from Nat.min_eq_left (by omega)]
 have hn2' : ∀ s d : Nat, s = cap - p → d = cap + 1 - (p + 1) → X.length = Nat.min s d * i0.size := by
  intro s d hs hd
  rw [lX, hz1, hs, hd, show Nat.min (cap - p) (cap + 1 - (p + 1)) = cap - p from Nat.min_eq_left (by omega)]
 have hB : Z1 = Z1.take 2 ++ Z1.drop 2 := (List.take_append_drop _ _).symm
 have hs1 : splice (A ++ (Z1 ++ Z2)) (p * 2) Y = (A ++ Y) ++ (Z1.drop 2 ++ Z2) := by
  have := splice_at A (Z1.take 2) Y (Z1.drop 2 ++ Z2) (by rw [List.length_take, hlr]; omega)
  rw [lA, ← List.append_assoc (Z1.take 2), List.take_append_drop] at this
  rw [this, List.append_assoc]
 have hs2 : splice ((A ++ Y) ++ (Z1.drop 2 ++ Z2)) ((p + 1) * 2) X = (A ++ Y) ++ (X ++ Z2) := by
  have := splice_at (A ++ Y) (Z1.drop 2) X Z2 (by rw [List.length_drop]; omega)
  rw [List.length_append, lA, hlr] at this
  rw [← this, show (p + 1) * 2 = p * 2 + 2 by omega]
 have hf1 : p * 2 + Y.length ≤ (A ++ (Z1 ++ Z2)).length := by simp only [List.length_append]; omega
 have hf2 : (p + 1) * 2 + X.length ≤ ((A ++ Y) ++ (Z1.drop 2 ++ Z2)).length := by simp only [List.length_append, List.length_drop]; omega
 have hq1 : IntKind.i64.wrap ((p : Int) + 1) = (p : Int) + 1 := IntWalk.i64_in _ (by omega)
 have hq2 : ((p : Int) + 1).toNat = p + 1 := by omega
 have hq3 : (0 : Int) ≤ (p : Int) + 1 := by omega
 have hq4 : p ≤ cap := by omega
 have hq5 : (p : Int) ≤ (cap : Int) + 1 := by omega
 have hq6 : ¬ gc = p := by omega
 have hq7 : ¬ gc = p + 1 := by omega
 have hq8 : gc ≤ 9223372036854775807 := by unfold maxLen at hgc2; omega
 have hlen : ((A ++ Y) ++ X).length = (cap + 1) * 2 := by simp only [List.length_append]; omega
 have hlenZ : (((A ++ Y) ++ X) ++ Z2).length = gc * 2 := by simp only [List.length_append]; omega
 have hxx : ∀ j u, X[j]? = some u → w.cell? ((⟨g, p * 2, none⟩ : Addr).add j) = some u := add_cells_off (fun j u hj => by
  rw [cell_cur hg, ← lA, List.getElem?_append_right (by omega), Nat.add_sub_cancel_left, List.getElem?_append_left (lgs hj).1]
  exact hj)
 have HAP := hid hap
 have HG1 := hid hG1
 have HI := hid hi
 have HY1 := hid hy1
 have HN1 := hid hn1'
 have HN2 := hid hn2'
 have HF1 := hid hf1
 rw [List.append_assoc] at hf2 hs2
 have HF2 := hid hf2
 have HS1 := hid hs1
 have HS2 := hid hs2
 have OY := hid h1
 have OX := hid oX
 have HLEN := hid hlen
 have HLENZ := hid hlenZ
 have HXX := hid hxx
 have HO1 := hid hO1
 have HGR := hid hgr1
 have HGS := hid hG
 clear hap hG1 hi hy1 hn1' hn2' hf1 hf2 hs1 hs2 h1 oX hlen hlenZ hxx hO1 hgr1 hG hg1 hn1 hg hn ha1 hw1 hB lA lX lZ1 lZ2 hlr hz0 hz1 hz2 hk1 hk2
 go_enter Tryd.func71, Tryd.ntmps71
 go_upto_region 11 with (first
  | (at_builtin; refine Lib.wpList_append_run _ rfl _ _ 86 3 rfl (.slice (some ⟨g, 0, none⟩) p cap) (.int .i64 ((cap : Int) + 1 - (p : Int))) (by simp [Act.eval, Act.put]) (by simp [Act.eval, Act.put]) _ _ HAP.out ?_)
  | (refine wpList_copy_rowN rfl _ _ 86 86 rfl 115 i0 Tryd.underlying86 HI.out G (p * 2) (cap + 1 - p) (gc - p) ⟨nb, 0, none⟩ 1 1 (by simp [Act.eval, Act.put]) (by simp [Act.eval, Act.put]) (A ++ (Z1 ++ Z2)) 115 HG1.out Y (HN1.out 1 (cap + 1 - p) rfl rfl) HY1.out HF1.out OY.out ?_; intro w2 hw2; have hg2 : w2.heap[G]? = some (.cells (splice (A ++ (Z1 ++ Z2)) (p * 2) Y).toArray 115 (0, 0)) := (by rw [hw2]; exact setRow_heap w1 G _ _ _ _ HG1.out); have HG2 := hid hg2; have HGR2 := hid (show w.grownBy w2 (some g) by rw [hw2]; exact grown_fresh HGR.out (grown_setRow _ _ _) (Nat.le_of_eq HGS.out)); have HO2 := hid (show ∀ k, k < G → w2.heap[k]? = w.heap[k]? by intro k hk; rw [hw2]; exact (setRow_other w1 G k _ (by omega)).trans (HO1.out k hk)); clear hg2 hw2))
 have hg2 := HG2.out
 rw [HS1.out] at hg2
 have hgd : w2.drew.heap[G]? = some (.cells ((A ++ Y) ++ (Z1.drop 2 ++ Z2)).toArray 115 (0, 0)) := hg2
 have hxd : ∀ j u, X[j]? = some u → w2.drew.cell? ((⟨g, p * 2, none⟩ : Addr).add j) = some u := fun j u hj => by
  have hh : w2.drew.heap[g]? = w.heap[g]? := HO2.out g hgl
  have hbk : ((⟨g, p * 2, none⟩ : Addr).add j).block = g := by unfold Addr.add; split <;> rfl
  exact (World.cell?_of_block (by rw [hbk]; exact hh)).trans (HXX.out j u hj)
 rw [List.append_assoc] at hgd
 have HGD := hid hgd
 have HXD := hid hxd
 clear hg2 hgd hxd
 go_region_law (refine step_copy_rowN rfl _ _ 86 86 rfl 115 i0 Tryd.underlying86 HI.out G ((p + 1) * 2) (cap - p) (gc - (p + 1)) ⟨g, p * 2, none⟩ (cap - p) (cap - p) (by simp [Act.eval, Act.put]) (by simp [Act.eval, Act.put]) (A ++ (Y ++ (Z1.drop 2 ++ Z2))) 115 HGD.out X (HN2.out (cap - p) (cap - p) rfl (by omega)) HXD.out HF2.out OX.out ?_; intro w3 hw3)
 obtain ⟨w3, hw3⟩ : ∃ x, x = w2.drew.setRow G (splice (A ++ (Y ++ (Z1.drop 2 ++ Z2))) ((p + 1) * 2) X).toArray := ⟨_, rfl⟩
 rw [← hw3]
 have hg3 : w3.heap[G]? = some (.cells (((A ++ Y) ++ X) ++ Z2).toArray 115 (0, 0)) := by
  rw [hw3, List.append_assoc (A ++ Y), ← HS2.out]; exact setRow_heap w2.drew G _ _ _ _ HGD.out
 have hgr3 : w.grownBy w3 (some g) := by rw [hw3]; exact grown_fresh (grown_drew HGR2.out) (grown_setRow _ _ _) (by have := HGS.out; omega)
 have HG3 := hid hg3
 have HGR3 := hid hgr3
 clear hw3 hg3 hgr3 hq1 hq2 hq3
 go_wp2
 go_ret
 refine ⟨_, rfl, ⟨by rw [← List.append_assoc]; exact HLEN.out, .inr ⟨G, gc, _, rfl, by have := HGS.out; omega, HG3.out, hgc1, hgc2, ?_, ?_⟩⟩, HGR3.out, .inr ⟨G, rfl, by have := HGS.out; omega⟩⟩
 ·rw [List.size_toArray]; exact HLENZ.out
 ·rw [← HLEN.out, ← List.append_assoc]
  simp only []
  exact List.take_left
end TabS
end
end Go.Proofs.YtekllgejmgoajaaDoor
