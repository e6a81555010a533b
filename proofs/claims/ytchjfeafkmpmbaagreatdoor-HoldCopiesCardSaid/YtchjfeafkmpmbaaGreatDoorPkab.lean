import Derived.Test.YtchjfeafkmpmbaaGreatDoorPkaa
import Derived.Deep.Cut
import Derived.BigRegion
import Derived.Deep.MidRow
namespace Go.Proofs.YtchjfeafkmpmbaaGreatDoor
set_option linter.unusedVariables false
set_option linter.unusedSimpArgs false
set_option maxRecDepth 100000
set_option maxHeartbeats 8000000
open Lib (hid)
section
open Go.ChangeShapes Go.WideShapes Go.ChangeAt Go.RowKit
namespace TabS
theorem sizeR (w : World) : (Go.sizeOf 163).run Tryz.prog w = .ok 2 w := by
 obtain ⟨i0, hi, hz0, hz1, hz2⟩ := info_parts infoR
 simp [Go.sizeOf, typeInfo, hi, hz1]
theorem overlaps_no (w : World) (nb g off la ca lb cb kA kB : Nat) (tA tB : TypeId) (hne : nb ≠ g) (hA : w.shape? nb = some (tA, kA)) (hB : w.shape? g = some (tB, kB)) (hk : kB ≠ 0) (hfa : w.frozen? ⟨nb, 0, none⟩ = false) (hfe : w.frozen? ⟨nb, kA, none⟩ = false) :
  (callFunc 134 #[.slice (some ⟨nb, 0, none⟩) la ca, .slice (some ⟨g, off, none⟩) lb cb]).run Tryz.prog w = .ok (.value (.bool false)) w := by
 rw [run_callFunc_extern Tryz.func134 (by kernel_rfl) (by kernel_rfl) (by kernel_rfl) (e := Extern.SlicesOverlaps.overlaps #[136, 136] #[4]) (by kernel_rfl),
  Lib.run_overlaps_apart w 136 4 163 Tryz.underlying136 2 sizeR ⟨nb, 0, none⟩ ⟨g, off, none⟩ la ca lb cb hne tA tB kA kB hA hB hk hfa hfe]
 rfl
theorem shape_row {w : World} {g : Nat} {cur : Array Value} {t : TypeId} {fr : Nat × Nat} (h : w.heap[g]? = some (.cells cur t fr)) : w.shape? g = some (t, cur.size) := by simp [World.shape?, h]
theorem froz_row {w : World} {g o : Nat} {cur : Array Value} {t : TypeId} (h : w.heap[g]? = some (.cells cur t (0, 0))) : w.frozen? ⟨g, o, none⟩ = false := by simp [World.frozen?, h]
theorem ins_room (w : World) (base g cap p : Nat) (R : List Rw) (D : List Value) (r : Rw) (nb : Nat) (hw : Wide 2 R) (hr : Wide 2 [r]) (hl : R.length ≤ 1000000) (hp : p < R.length) (hcap : R.length + 1 ≤ cap) (hcm : cap ≤ maxLen) (hbg : base ≤ g)
  (hg : w.heap[g]? = some (.cells (flat R ++ D).toArray 163 (0, 0))) (hD : (flat R ++ D).length = cap * 2) (hne : nb ≠ g)
  (hn : w.heap[nb]? = some (.cells (rcells r).toArray 163 (0, 0))) :
  Calls Tryz.prog 123 #[.slice (some ⟨g, 0, none⟩) R.length cap, .int .i64 p, .slice (some ⟨nb, 0, none⟩) 1 1] w fun e w' => ∃ v', e = .returned v' ∧ InsPost w w' base (.slice (some ⟨g, 0, none⟩) R.length cap) v' (R.take p ++ r :: R.drop p) := by
 obtain ⟨i0, hi, hz0, hz1, hz2⟩ := info_parts infoR
 have hlr : (rcells r).length = 2 := (hr r (by simp)).1
 have h1 : ∀ u ∈ rcells r, u.oneCell' = true := (hr r (by simp)).2
 have hcur : flat R ++ D = flat (R.take p) ++ (flat (R.drop p) ++ D) := by
  rw [← List.append_assoc, ← flat_append, List.take_append_drop]
 have lA : (flat (R.take p)).length = p * 2 := by rw [flat_length (hw.take p), List.length_take, Nat.min_eq_left (by omega)]
 have lX : (flat (R.drop p)).length = (R.length - p) * 2 := by rw [flat_length (hw.drop p), List.length_drop]
 have oX := flat_one (hw.drop p)
 have e2 : (R.take p ++ r :: R.drop p).length = R.length + 1 := by simp; omega
 have e1 : flat (R.take p ++ r :: R.drop p) = flat (R.take p) ++ (rcells r ++ flat (R.drop p)) := by rw [flat_append, flat_cons]
 rw [hcur] at hg hD
 unfold InsPost
 rw [e1, e2]
 have lD : (flat (R.take p)).length + ((flat (R.drop p)).length + D.length) = cap * 2 := by rw [← hD]; simp
 generalize flat (R.take p) = A at *
 generalize flat (R.drop p) = X at *
 generalize R.length = n at *
 clear hcur e1 e2 hw hr hD
 generalize hY : rcells r = Y at *
 clear hY
 have hDl : 2 ≤ D.length := by rw [lA, lX] at lD; omega
 have hov := fun la ca lb cb => overlaps_no w nb g ((p + 1) * 2) la ca lb cb Y.toArray.size _ _ _ hne (shape_row hn) (shape_row hg) (by rw [List.size_toArray]; simp only [List.length_append]; omega) (froz_row hn) (froz_row hn)
 have hlt : (p : Int) < n := by omega
 have hpn : ¬ (p : Int) = n := by omega
 have hcc : ¬ (cap : Int) < (n : Int) + 1 := by omega
 have hc1 : ¬ cap = p + 1 := by omega
 have hc0 : ¬ cap = p := by omega
 have hcap63 : cap ≤ 9223372036854775807 := by unfold maxLen at hcm; omega
 have hx1 : ∀ j u, X[j]? = some u → w.cell? ((⟨g, p * 2, none⟩ : Addr).add j) = some u := add_cells_off (fun j u hj => by
  rw [cell_cur hg, ← lA, List.getElem?_append_right (by omega), Nat.add_sub_cancel_left, List.getElem?_append_left (lgs hj).1]
  exact hj)
 have hy1 : ∀ j u, Y[j]? = some u → w.cell? ((⟨nb, 0, none⟩ : Addr).add j) = some u := add_cells (fun j u hj => by rw [cell_cur hn]; exact hj)
 have HG := hid hg
 have hgd : w.drew.heap[g]? = some (.cells (A ++ (X ++ D)).toArray 163 (0, 0)) := hg
 have hxd : ∀ j u, X[j]? = some u → w.drew.cell? ((⟨g, p * 2, none⟩ : Addr).add j) = some u := hx1
 have HGD := hid hgd
 have HXD := hid hxd
 have HN := hid hn
 have HX := hid hx1
 have HY := hid hy1
 have LA := hid lA
 have LX := hid lX
 have LD := hid lD
 have LR := hid hlr
 have OX := hid oX
 have OY := hid h1
 have HI := hid hi
 have HZ := hid hz1
 have HDL := hid hDl
 clear hg hgd hxd hn hx1 hy1 lA lX lD hlr oX h1 hi hz0 hz1 hz2 hDl
 go_enter Tryz.func123, Tryz.ntmps123
 go_upto_region 15 with (simp only [hov])
 have LAo := LA.out
 have LXo := LX.out
 have LDo := LD.out
 have hDl2 := HDL.out
 have LRo := LR.out
 have hn1 : ∀ s d : Nat, s = n + 1 - p → d = n + 1 - (p + 1) → X.length = Nat.min s d * i0.size := by
  intro s d hs hd
  rw [LXo, HZ.out, show Nat.min s d = d from Nat.min_eq_right (by omega)]
  congr 1; omega
 have hn2 : ∀ s d : Nat, s = 1 → d = n + 1 - p → Y.length = Nat.min s d * i0.size := by
  intro s d hs hd
  rw [LRo, HZ.out, show Nat.min s d = s from Nat.min_eq_left (by omega)]
  omega
 have hf1 : (p + 1) * 2 + X.length ≤ (A ++ (X ++ D)).length := by simp only [List.length_append]; omega
 have hf2 : p * 2 + Y.length ≤ (splice (A ++ (X ++ D)) ((p + 1) * 2) X).length := by
  rw [length_splice' _ _ _ hf1]; simp only [List.length_append]; omega
 have hsp : splice (splice (A ++ (X ++ D)) ((p + 1) * 2) X) (p * 2) Y = A ++ (Y ++ (X ++ D.drop Y.length)) := by
  have := splice_up A X Y D (by omega)
  rw [LAo, LRo] at this
  rw [LRo, ← this, show (p + 1) * 2 = p * 2 + 2 by omega]
 have hq1 : IntKind.i64.wrap ((p : Int) + 1) = (p : Int) + 1 := IntWalk.i64_in _ (by omega)
 have hq2 : ((p : Int) + 1).toNat = p + 1 := by omega
 have hq3 : (0 : Int) ≤ (p : Int) + 1 := by omega
 have hq4 : p ≤ n := by omega
 have hq5 : (p : Int) ≤ (n : Int) + 1 := by omega
 have HN1 := hid hn1
 have HN2 := hid hn2
 have HF1 := hid hf1
 have HF2 := hid hf2
 have HSP := hid hsp
 clear hn1 hn2 hf1 hf2 hsp hDl2 LAo LXo LDo LRo
 go_region_law (refine step_copy_rowN rfl _ _ 136 136 rfl 163 i0 Tryz.underlying136 HI.out g ((p + 1) * 2) (n - p) (cap - (p + 1)) ⟨g, p * 2, none⟩ (n + 1 - p) (cap - p) (by simp [Act.eval, Act.put]) (by simp [Act.eval, Act.put]) (A ++ (X ++ D)) 163 HGD.out X (HN1.out (n + 1 - p) (n - p) rfl (by omega)) HXD.out HF1.out OX.out ?_; intro w1 hw1)
 obtain ⟨w1, hw1⟩ : ∃ x, x = w.drew.setRow g (splice (A ++ (X ++ D)) ((p + 1) * 2) X).toArray := ⟨_, rfl⟩
 rw [← hw1]
 have hg1 : w1.heap[g]? = some (.cells (splice (A ++ (X ++ D)) ((p + 1) * 2) X).toArray 163 (0, 0)) := by rw [hw1]; exact setRow_heap w.drew g _ _ _ _ HGD.out
 have hn1 : w1.heap[nb]? = some (.cells Y.toArray 163 (0, 0)) := by rw [hw1]; exact (setRow_other w.drew g nb _ hne).trans HN.out
 have hgr1 : w.grownBy w1 (some g) := by rw [hw1]; exact grown_trans (⟨rfl, rfl, rfl, Nat.le_refl _, fun _ _ _ => rfl⟩ : w.grownBy w.drew (some g)) (grown_setRow _ _ _)
 have hy1 : ∀ j u, Y[j]? = some u → w1.cell? ((⟨nb, 0, none⟩ : Addr).add j) = some u := add_cells (fun j u hj => by rw [cell_cur hn1]; exact hj)
 have HG1 := hid hg1
 have HGR := hid hgr1
 have HY1 := hid hy1
 clear hw1 hg1 hn1 hgr1 hy1 hov
 go_wp2_with (first | refine wpList_copy_rowN rfl _ _ 136 136 rfl 163 i0 Tryz.underlying136 HI.out g (p * 2) (n + 1 - p) (cap - p) ⟨nb, 0, none⟩ 1 1 (by simp [Act.eval, Act.put]) (by simp [Act.eval, Act.put]) (splice (A ++ (X ++ D)) ((p + 1) * 2) X) 163 HG1.out Y (HN2.out 1 (n + 1 - p) rfl rfl) HY1.out HF2.out OY.out ?_; intro w2 hw2; have hg2 : w2.heap[g]? = some (.cells (splice (splice (A ++ (X ++ D)) ((p + 1) * 2) X) (p * 2) Y).toArray 163 (0, 0)) := (by rw [hw2]; exact setRow_heap w1 g _ _ _ _ HG1.out); have HG2 := hid hg2; have HGR2 := hid (show w.grownBy w2 (some g) by rw [hw2]; exact grown_trans HGR.out (grown_setRow _ _ _)); clear hg2 hw2)
 go_ret
 have hg2 := HG2.out
 rw [HSP.out] at hg2
 have LAo := LA.out
 have LXo := LX.out
 have LDo := LD.out
 have LRo := LR.out
 have hDl2 := HDL.out
 have hlen : (A ++ (Y ++ X)).length = (n + 1) * 2 := by simp only [List.length_append]; omega
 refine ⟨_, rfl, ⟨hlen, .inr ⟨g, cap, _, rfl, hbg, hg2, hcap, hcm, ?_, ?_⟩⟩, HGR2.out, .inl rfl⟩
 ·simp only [List.size_toArray, List.length_append, List.length_drop]; omega
 ·rw [← hlen]
  have : A ++ (Y ++ (X ++ D.drop Y.length)) = (A ++ (Y ++ X)) ++ D.drop Y.length := by simp
  simp only [this]
  exact List.take_left
theorem zeros_len (k : Nat) : (Builtin.zeroCells (Value.cells (.agg #[.int .i64 0, .slice none 0 0])) k).toList.length = k * 2 := by
 rw [Array.length_toList, size_zeroCells]
 rfl
theorem ins_grow (w : World) (base g cap p : Nat) (R : List Rw) (D : List Value) (r : Rw) (nb : Nat) (hw : Wide 2 R) (hr : Wide 2 [r]) (hl : R.length ≤ 1000000) (hp : p < R.length) (hle : R.length ≤ cap) (hcap : cap < R.length + 1) (hbw : base ≤ w.heap.size)
  (hg : w.heap[g]? = some (.cells (flat R ++ D).toArray 163 (0, 0)))
  (hn : w.heap[nb]? = some (.cells (rcells r).toArray 163 (0, 0))) :
  Calls Tryz.prog 123 #[.slice (some ⟨g, 0, none⟩) R.length cap, .int .i64 p, .slice (some ⟨nb, 0, none⟩) 1 1] w fun e w' => ∃ v', e = .returned v' ∧ InsPost w w' base (.slice (some ⟨g, 0, none⟩) R.length cap) v' (R.take p ++ r :: R.drop p) := by
 obtain ⟨i0, hi, hz0, hz1, hz2⟩ := info_parts infoR
 have hlr : (rcells r).length = 2 := (hr r (by simp)).1
 have h1 : ∀ u ∈ rcells r, u.oneCell' = true := (hr r (by simp)).2
 have hcur : flat R ++ D = flat (R.take p) ++ (flat (R.drop p) ++ D) := by
  rw [← List.append_assoc, ← flat_append, List.take_append_drop]
 have lA : (flat (R.take p)).length = p * 2 := by rw [flat_length (hw.take p), List.length_take, Nat.min_eq_left (by omega)]
 have lX : (flat (R.drop p)).length = (R.length - p) * 2 := by rw [flat_length (hw.drop p), List.length_drop]
 have oX := flat_one (hw.drop p)
 have e2 : (R.take p ++ r :: R.drop p).length = R.length + 1 := by simp; omega
 have e1 : flat (R.take p ++ r :: R.drop p) = flat (R.take p) ++ (rcells r ++ flat (R.drop p)) := by rw [flat_append, flat_cons]
 rw [hcur] at hg
 unfold InsPost
 rw [e1, e2]
 generalize flat (R.take p) = A at *
 generalize flat (R.drop p) = X at *
 generalize R.length = n at *
 clear hcur e1 e2 hw hr
 generalize hY : rcells r = Y at *
 clear hY
 obtain rfl : cap = n := by omega
 have hgl : g < w.heap.size := (ags hg).1
 have hnl : nb < w.heap.size := (ags hn).1
 have hlt : (p : Int) < cap := by omega
 have hpn : ¬ (p : Int) = cap := by omega
 have hcc : (cap : Int) < (cap : Int) + 1 := by omega
 have hc0 : ¬ cap = p := by omega
 have ha1 : ∀ j u, A[j]? = some u → w.drew.cell? ((⟨g, 0, none⟩ : Addr).add j) = some u := add_cells (fun j u hj => by
  rw [cell_cur (w := w.drew) hg, List.getElem?_append_left (lgs hj).1]
  exact hj)
 have hap := Lib.run_append_grow_zeros (P := Tryz.prog) w 136 3 136 163 i0 (.agg #[.int .i64 0, .slice none 0 0]) .i64 .i64 Tryz.underlying136 Tryz.underlying3 hi hz0 (some ⟨g, 0, none⟩) p cap A
  (run_firstCells_some (P := Tryz.prog) w.drew i0.size p ⟨g, 0, none⟩ p cap A (by rw [lA, hz1]) ha1) (cap + 1 - p) (by omega) (by rw [hz1]; omega) (by omega) (by omega) (by rw [hz2]; omega) (by rw [hz2]; exact growslice_fits (by omega) (by omega))
 have hk1 : p + (cap + 1 - p) = cap + 1 := by omega
 have hk2 : ((cap + 1 - p : Nat) : Int) = (cap : Int) + 1 - (p : Int) := by omega
 rw [hk1, hk2] at hap
 have hgc1 := grownCap_ge w (cap + 1) cap 163
 have hgc2 : grownCap w (cap + 1) cap 163 ≤ maxLen := grownCap_le_maxLen w (cap + 1) cap 163 (by unfold maxLen; omega)
 generalize grownCap w (cap + 1) cap 163 = gc at hap hgc1 hgc2
 obtain ⟨Z1, hZ1⟩ : ∃ L, L = (Builtin.zeroCells (Value.cells (.agg #[.int .i64 0, .slice none 0 0])) (cap + 1 - p)).toList := ⟨_, rfl⟩
 obtain ⟨Z2, hZ2⟩ : ∃ L, L = (Builtin.zeroCells (Value.cells (.agg #[.int .i64 0, .slice none 0 0])) (gc - (cap + 1))).toList := ⟨_, rfl⟩
 have lZ1 : Z1.length = (cap + 1 - p) * 2 := by rw [hZ1]; exact zeros_len _
 have lZ2 : Z2.length = (gc - (cap + 1)) * 2 := by rw [hZ2]; exact zeros_len _
 have hLz : A.toArray ++ Builtin.zeroCells (Value.cells (.agg #[.int .i64 0, .slice none 0 0])) (cap + 1 - p) ++ Builtin.zeroCells (Value.cells (.agg #[.int .i64 0, .slice none 0 0])) (gc - (cap + 1)) = (A ++ (Z1 ++ Z2)).toArray := by
  apply Array.ext'
  simp [hZ1, hZ2]
 rw [hLz] at hap
 clear hZ1 hZ2 hLz
 obtain ⟨w1, hw1⟩ : ∃ x, x = w.drew.alloc (.cells (A ++ (Z1 ++ Z2)).toArray 163) := ⟨_, rfl⟩
 rw [← hw1] at hap
 have hG1 : w1.heap[w.heap.size]? = some (.cells (A ++ (Z1 ++ Z2)).toArray 163 (0, 0)) := by rw [hw1]; exact heap_alloc_new w.drew _
 have hO1 : ∀ k, k < w.heap.size → w1.heap[k]? = w.heap[k]? := fun k hk => by rw [hw1]; exact heap_alloc_old w.drew _ hk
 have hgr1 : w.grownBy w1 (some g) := by rw [hw1]; exact grown_trans (⟨rfl, rfl, rfl, Nat.le_refl _, fun _ _ _ => rfl⟩ : w.grownBy w.drew (some g)) (World.grownBy_alloc _ _ _)
 generalize hG : w.heap.size = G at *
 have hg1 := (hO1 g hgl).trans hg
 have hn1 := (hO1 nb hnl).trans hn
 have hy1 : ∀ j u, Y[j]? = some u → w1.cell? ((⟨nb, 0, none⟩ : Addr).add j) = some u := add_cells (fun j u hj => by rw [cell_cur hn1]; exact hj)
 have hn1' : ∀ s d : Nat, s = 1 → d = cap + 1 - p → Y.length = Nat.min s d * i0.size := by
  intro s d hs hd
  rw [hlr, hz1, hs, hd, show Nat.min 1 (cap + 1 - p) = 1 from Nat.min_eq_left (by omega)]
 have hn2' : ∀ s d : Nat, s = cap - p → d = cap + 1 - (p + 1) → X.length = Nat.min s d * i0.size := by
  intro s d hs hd
  rw [lX, hz1, hs, hd, show Nat.min (cap - p) (cap + 1 - (p + 1)) = cap - p from Nat.min_eq_left (by omega)]
 have hB : Z1 = Z1.take 2 ++ Z1.drop 2 := (List.take_append_drop _ _).symm
 have hs1 : splice (A ++ (Z1 ++ Z2)) (p * 2) Y = (A ++ Y) ++ (Z1.drop 2 ++ Z2) := by
  have := splice_at A (Z1.take 2) Y (Z1.drop 2 ++ Z2) (by rw [List.length_take, hlr]; omega)
  rw [lA, ← List.append_assoc (Z1.take 2), List.take_append_drop] at this
  rw [this, List.append_assoc]
 have hs2 : splice ((A ++ Y) ++ (Z1.drop 2 ++ Z2)) ((p + 1) * 2) X = (A ++ Y) ++ (X ++ Z2) := by
  have := splice_at (A ++ Y) (Z1.drop 2) X Z2 (by rw [List.length_drop]; omega)
  rw [List.length_append, lA, hlr] at this
  rw [← this, show (p + 1) * 2 = p * 2 + 2 by omega]
 have hf1 : p * 2 + Y.length ≤ (A ++ (Z1 ++ Z2)).length := by simp only [List.length_append]; omega
 have hf2 : (p + 1) * 2 + X.length ≤ ((A ++ Y) ++ (Z1.drop 2 ++ Z2)).length := by simp only [List.length_append, List.length_drop]; omega
 have hq1 : IntKind.i64.wrap ((p : Int) + 1) = (p : Int) + 1 := IntWalk.i64_in _ (by omega)
 have hq2 : ((p : Int) + 1).toNat = p + 1 := by omega
 have hq3 : (0 : Int) ≤ (p : Int) + 1 := by omega
 have hq4 : p ≤ cap := by omega
 have hq5 : (p : Int) ≤ (cap : Int) + 1 := by omega
 have hq6 : ¬ gc = p := by omega
 have hq7 : ¬ gc = p + 1 := by omega
 have hq8 : gc ≤ 9223372036854775807 := by unfold maxLen at hgc2; omega
 have hlen : ((A ++ Y) ++ X).length = (cap + 1) * 2 := by simp only [List.length_append]; omega
 have hlenZ : (((A ++ Y) ++ X) ++ Z2).length = gc * 2 := by simp only [List.length_append]; omega
 have hxx : ∀ j u, X[j]? = some u → w.cell? ((⟨g, p * 2, none⟩ : Addr).add j) = some u := add_cells_off (fun j u hj => by
  rw [cell_cur hg, ← lA, List.getElem?_append_right (by omega), Nat.add_sub_cancel_left, List.getElem?_append_left (lgs hj).1]
  exact hj)
 have HAP := hid hap
 have HG1 := hid hG1
 have HI := hid hi
 have HY1 := hid hy1
 have HN1 := hid hn1'
 have HN2 := hid hn2'
 have HF1 := hid hf1
 rw [List.append_assoc] at hf2 hs2
 have HF2 := hid hf2
 have HS1 := hid hs1
 have HS2 := hid hs2
 have OY := hid h1
 have OX := hid oX
 have HLEN := hid hlen
 have HLENZ := hid hlenZ
 have HXX := hid hxx
 have HO1 := hid hO1
 have HGR := hid hgr1
 have HGS := hid hG
 clear hap hG1 hi hy1 hn1' hn2' hf1 hf2 hs1 hs2 h1 oX hlen hlenZ hxx hO1 hgr1 hG hg1 hn1 hg hn ha1 hw1 hB lA lX lZ1 lZ2 hlr hz0 hz1 hz2 hk1 hk2
 go_enter Tryz.func123, Tryz.ntmps123
 go_upto_region 11 with (first
  | (at_builtin; refine Lib.wpList_append_run _ rfl _ _ 136 3 rfl (.slice (some ⟨g, 0, none⟩) p cap) (.int .i64 ((cap : Int) + 1 - (p : Int))) (by simp [Act.eval, Act.put]) (by simp [Act.eval, Act.put]) _ _ HAP.out ?_)
  | (refine wpList_copy_rowN rfl _ _ 136 136 rfl 163 i0 Tryz.underlying136 HI.out G (p * 2) (cap + 1 - p) (gc - p) ⟨nb, 0, none⟩ 1 1 (by simp [Act.eval, Act.put]) (by simp [Act.eval, Act.put]) (A ++ (Z1 ++ Z2)) 163 HG1.out Y (HN1.out 1 (cap + 1 - p) rfl rfl) HY1.out HF1.out OY.out ?_; intro w2 hw2; have hg2 : w2.heap[G]? = some (.cells (splice (A ++ (Z1 ++ Z2)) (p * 2) Y).toArray 163 (0, 0)) := (by rw [hw2]; exact setRow_heap w1 G _ _ _ _ HG1.out); have HG2 := hid hg2; have HGR2 := hid (show w.grownBy w2 (some g) by rw [hw2]; exact grown_fresh HGR.out (grown_setRow _ _ _) (Nat.le_of_eq HGS.out)); have HO2 := hid (show ∀ k, k < G → w2.heap[k]? = w.heap[k]? by intro k hk; rw [hw2]; exact (setRow_other w1 G k _ (by omega)).trans (HO1.out k hk)); clear hg2 hw2))
 have hg2 := HG2.out
 rw [HS1.out] at hg2
 have hgd : w2.drew.heap[G]? = some (.cells ((A ++ Y) ++ (Z1.drop 2 ++ Z2)).toArray 163 (0, 0)) := hg2
 have hxd : ∀ j u, X[j]? = some u → w2.drew.cell? ((⟨g, p * 2, none⟩ : Addr).add j) = some u := fun j u hj => by
  have hh : w2.drew.heap[g]? = w.heap[g]? := HO2.out g hgl
  have hbk : ((⟨g, p * 2, none⟩ : Addr).add j).block = g := by unfold Addr.add; split <;> rfl
  exact (World.cell?_of_block (by rw [hbk]; exact hh)).trans (HXX.out j u hj)
 rw [List.append_assoc] at hgd
 have HGD := hid hgd
 have HXD := hid hxd
 clear hg2 hgd hxd
 go_region_law (refine step_copy_rowN rfl _ _ 136 136 rfl 163 i0 Tryz.underlying136 HI.out G ((p + 1) * 2) (cap - p) (gc - (p + 1)) ⟨g, p * 2, none⟩ (cap - p) (cap - p) (by simp [Act.eval, Act.put]) (by simp [Act.eval, Act.put]) (A ++ (Y ++ (Z1.drop 2 ++ Z2))) 163 HGD.out X (HN2.out (cap - p) (cap - p) rfl (by omega)) HXD.out HF2.out OX.out ?_; intro w3 hw3)
 obtain ⟨w3, hw3⟩ : ∃ x, x = w2.drew.setRow G (splice (A ++ (Y ++ (Z1.drop 2 ++ Z2))) ((p + 1) * 2) X).toArray := ⟨_, rfl⟩
 rw [← hw3]
 have hg3 : w3.heap[G]? = some (.cells (((A ++ Y) ++ X) ++ Z2).toArray 163 (0, 0)) := by
  rw [hw3, List.append_assoc (A ++ Y), ← HS2.out]; exact setRow_heap w2.drew G _ _ _ _ HGD.out
 have hgr3 : w.grownBy w3 (some g) := by rw [hw3]; exact grown_fresh (grown_drew HGR2.out) (grown_setRow _ _ _) (by have := HGS.out; omega)
 have HG3 := hid hg3
 have HGR3 := hid hgr3
 clear hw3 hg3 hgr3 hq1 hq2 hq3
 go_wp2
 go_ret
 refine ⟨_, rfl, ⟨by rw [← List.append_assoc]; exact HLEN.out, .inr ⟨G, gc, _, rfl, by have := HGS.out; omega, HG3.out, hgc1, hgc2, ?_, ?_⟩⟩, HGR3.out, .inr ⟨G, rfl, by have := HGS.out; omega⟩⟩
 ·rw [List.size_toArray]; exact HLENZ.out
 ·rw [← HLEN.out, ← List.append_assoc]
  simp only []
  exact List.take_left
theorem zero_run (w : World) : (zeroValue 163).run Tryz.prog w = .ok (.agg #[.int .i64 0, .slice none 0 0]) w := by
 obtain ⟨i0, hi, hz0, hz1, hz2⟩ := info_parts infoR
 simp [zeroValue, typeInfo, hi, hz0]
theorem zone : ∀ u ∈ (Value.cells (.agg #[.int .i64 0, .slice none 0 0])).toList, u.oneCell' = true := by
 intro u hu
 have h : (Value.cells (.agg #[.int .i64 0, .slice none 0 0])).toList.all (·.oneCell') = true := by decide +kernel
 exact List.all_eq_true.1 h u hu
theorem del_run (w : World) (base g cap p m : Nat) (R : List Rw) (D : List Value) (hw : Wide 2 R) (hl : R.length ≤ 1000000) (hm : R.length = m + 1) (hp : p < R.length) (hle : R.length ≤ cap) (hcm : cap ≤ maxLen) (hbg : base ≤ g)
  (hg : w.heap[g]? = some (.cells (flat R ++ D).toArray 163 (0, 0))) (hD : (flat R ++ D).length = cap * 2) :
  Calls Tryz.prog 127 #[.slice (some ⟨g, 0, none⟩) R.length cap, .int .i64 p, .int .i64 ((p : Int) + 1)] w fun e w' => e = .returned (.slice (some ⟨g, 0, none⟩) m cap) ∧ w'.ownsRow base 163 2 (.slice (some ⟨g, 0, none⟩) m cap) m (flat (R.take p ++ R.drop (p + 1))) ∧ w.grownBy w' (some g) := by
 obtain ⟨i0, hi, hz0, hz1, hz2⟩ := info_parts infoR
 have hcur : flat R ++ D = flat (R.take p) ++ (flat ((R.drop p).take 1) ++ (flat (R.drop (p + 1)) ++ D)) := by
  rw [← List.append_assoc, ← List.append_assoc, ← flat_append, ← flat_append]
  congr 2
  rw [List.append_assoc, show R.drop (p + 1) = (R.drop p).drop 1 by rw [List.drop_drop], List.take_append_drop, List.take_append_drop]
 have lA : (flat (R.take p)).length = p * 2 := by rw [flat_length (hw.take p), List.length_take, Nat.min_eq_left (by omega)]
 have lB : (flat ((R.drop p).take 1)).length = 2 := by rw [flat_length ((hw.drop p).take 1), List.length_take, List.length_drop, Nat.min_eq_left (by omega)]
 have lX : (flat (R.drop (p + 1))).length = (R.length - (p + 1)) * 2 := by rw [flat_length (hw.drop (p + 1)), List.length_drop]
 have oX := flat_one (hw.drop (p + 1))
 rw [hcur] at hg hD
 have e1 : flat (R.take p ++ R.drop (p + 1)) = flat (R.take p) ++ flat (R.drop (p + 1)) := flat_append _ _
 rw [e1]
 generalize flat (R.take p) = A at *
 generalize flat ((R.drop p).take 1) = B at *
 generalize flat (R.drop (p + 1)) = X at *
 rw [hm] at lX hp hle hl ⊢
 clear hcur e1 hw hm
 have lall : A.length + (B.length + (X.length + D.length)) = cap * 2 := by rw [← hD]; simp
 have hpm : (p : Int) + 1 ≤ (m : Int) + 1 := by omega
 have hlt : (p : Int) ≤ (m : Int) + 1 := by omega
 have hne : ¬ (p : Int) = (p : Int) + 1 := by omega
 have hcap63 : cap ≤ 9223372036854775807 := by unfold maxLen at hcm; omega
 have hq1 : IntKind.i64.wrap ((p : Int) + 1) = (p : Int) + 1 := IntWalk.i64_in _ (by omega)
 have hq2 : ((p : Int) + 1).toNat = p + 1 := by omega
 have hq3 : (0 : Int) ≤ (p : Int) + 1 := by omega
 have hq4 : p ≤ m := by omega
 have hq5 : p ≤ cap := by omega
 have hq6 : (p : Int) ≤ cap := by omega
 have hq7 : m + 1 - (p + 1) = m - p := by omega
 have hc0 : ¬ cap = p := by omega
 have hc1 : ¬ cap = m := by omega
 have hx1 : ∀ ad : Addr, (¬ cap = p + 1 → ad = ⟨g, (p + 1) * 2, none⟩) → ∀ j u, X[j]? = some u → w.drew.cell? (ad.add j) = some u := by
  intro ad had j u hj
  have hjl := (lgs hj).1
  rw [had (by omega)]
  refine add_cells_off (w := w.drew) (fun j u hj => ?_) j u hj
  have hjl := (lgs hj).1
  rw [cell_cur (w := w.drew) hg, show (p + 1) * 2 = p * 2 + 2 by omega, ← lA, ← lB, List.getElem?_append_right (by omega), show A.length + B.length + j - A.length = B.length + j by omega, List.getElem?_append_right (by omega), Nat.add_sub_cancel_left, List.getElem?_append_left hjl]
  exact hj
 have happ : ∀ (ad : Addr) (c : Nat), (¬ cap = p + 1 → ad = ⟨g, (p + 1) * 2, none⟩) → (Builtin.append_ #[136, 136] 136 #[.slice (some ⟨g, 0, none⟩) p cap, .slice (some ad) (m - p) c]).run Tryz.prog w.drew = .ok (.slice (some ⟨g, 0, none⟩) m cap) (w.drew.setRow g (splice (A ++ (B ++ (X ++ D))) (p * 2) X).toArray) := by
  intro ad c had
  have h := run_append_room (P := Tryz.prog) w.drew 136 136 163 i0 Tryz.underlying136 hi g p cap _ hg ad (m - p) c X (by rw [lX, hz1]; omega) (hx1 ad had) oX (by omega) (by rw [hz1]; simp only [List.size_toArray, List.length_append]; omega)
  rw [show p + (m - p) = m by omega, hz1] at h
  rw [h]
  simp [splice]
 have hs1 : splice (splice (A ++ (B ++ (X ++ D))) (p * 2) X) (m * 2) (Value.cells (.agg #[.int .i64 0, .slice none 0 0])).toList = (A ++ X) ++ ((Value.cells (.agg #[.int .i64 0, .slice none 0 0])).toList ++ D) := by
  have := splice_down A B X D (Value.cells (.agg #[.int .i64 0, .slice none 0 0])).toList (by rw [lB]; rfl)
  rw [lA, lX, show p * 2 + (m + 1 - (p + 1)) * 2 = m * 2 by omega] at this
  rw [this, List.append_assoc]
 have lz : (Value.cells (.agg #[.int .i64 0, .slice none 0 0])).toList.length = 2 := rfl
 have hf1 : p * 2 + X.length ≤ (A ++ (B ++ (X ++ D))).length := by simp only [List.length_append]; omega
 have hf2 : m * 2 + (Value.cells (.agg #[.int .i64 0, .slice none 0 0])).size ≤ (splice (A ++ (B ++ (X ++ D))) (p * 2) X).length := by
  rw [length_splice' _ _ _ hf1, show (Value.cells (.agg #[.int .i64 0, .slice none 0 0])).size = 2 from rfl]; simp only [List.length_append]; omega
 have hlen : (A ++ X).length = m * 2 := by simp only [List.length_append]; omega
 have hlenZ : ((A ++ X) ++ ((Value.cells (.agg #[.int .i64 0, .slice none 0 0])).toList ++ D)).length = cap * 2 := by simp only [List.length_append, lz]; omega
 have HG := hid hg
 have HAP := hid happ
 have HS1 := hid hs1
 have HF2 := hid hf2
 have HLEN := hid hlen
 have HLENZ := hid hlenZ
 clear hg happ hs1 hf2 hlen hlenZ hx1 hf1 lA lB lX oX hD lall hi hz0 hz1 hz2 lz
 generalize hW : splice (A ++ (B ++ (X ++ D))) (p * 2) X = S at *
 clear hW
 have hrest : ∀ w1 : World, w1 = w.drew.setRow g S.toArray → w1.heap[g]? = some (.cells S.toArray 163 (0, 0)) ∧ ∀ w2, w2 = w1.setRow g (splice S (m * 2) (Value.cells (.agg #[.int .i64 0, .slice none 0 0])).toList).toArray → w2.ownsRow base 163 2 (.slice (some ⟨g, 0, none⟩) m cap) m (A ++ X) ∧ w.grownBy w2 (some g) := by
  rintro w1 rfl
  have hg1 := setRow_heap w.drew g _ S.toArray _ (0, 0) HG.out
  refine ⟨hg1, ?_⟩
  rintro w2 rfl
  rw [HS1.out]
  refine ⟨⟨HLEN.out, .inr ⟨g, cap, _, rfl, hbg, setRow_heap _ g _ _ _ _ hg1, by omega, hcm, ?_, ?_⟩⟩, ?_⟩
  ·rw [List.size_toArray]; exact HLENZ.out
  ·rw [← HLEN.out]
   simp only []
   exact List.take_left
  ·exact grown_trans (grown_trans (⟨rfl, rfl, rfl, Nat.le_refl _, fun _ _ _ => rfl⟩ : w.grownBy w.drew (some g)) (grown_setRow _ _ _)) (grown_setRow _ _ _)
 have HRE := hid hrest
 clear hrest
 by_cases hpc : cap = p + 1
 ·obtain rfl : m = p := by omega
  subst hpc
  have hq8 : (m : Int) ≤ (m : Int) + 1 := by omega
  have HAP0 := HAP.out ⟨g, 0, none⟩ 0 (fun h => absurd rfl h)
  rw [Nat.sub_self] at HAP0
  have HAP1 := hid HAP0
  clear HAP0 HAP
  go_enter Tryz.func127, Tryz.ntmps127
  go_upto_region 5 with fail
  go_region_law (refine step_append_run rfl _ _ 136 136 rfl (.slice (some ⟨g, 0, none⟩) m (m + 1)) (.slice (some ⟨g, 0, none⟩) 0 0) (by simp [Act.eval, Act.put]) (by simp [Act.eval, Act.put]) _ _ HAP1.out ?_)
  obtain ⟨w1, hw1⟩ : ∃ x, x = w.drew.setRow g S.toArray := ⟨_, rfl⟩
  rw [← hw1]
  obtain ⟨hg1, hr1⟩ := HRE.out w1 hw1
  have HG1 := hid hg1
  have HR1 := hid hr1
  clear hw1 hg1 hr1 hq1 hq2 hq3
  go_wp2_with (refine wpList_clear_rowN rfl _ 136 rfl 163 (.agg #[.int .i64 0, .slice none 0 0]) Tryz.underlying136 zero_run g (m * 2) 1 _ (by simp [Act.eval, Act.put]; rfl) S 163 HG1.out rfl (by decide) HF2.out zone ?_; intro w2 hw2; have HR2 := hid (HR1.out w2 hw2); clear hw2)
  go_ret
  exact ⟨rfl, HR2.out⟩
 ·go_enter Tryz.func127, Tryz.ntmps127
  go_upto_region 5 with fail
  go_region_law (refine step_append_run rfl _ _ 136 136 rfl (.slice (some ⟨g, 0, none⟩) p cap) (.slice (some ⟨g, (p + 1) * 2, none⟩) (m - p) (cap - (p + 1))) (by simp [Act.eval, Act.put]) (by simp [Act.eval, Act.put]) _ _ (HAP.out ⟨g, (p + 1) * 2, none⟩ (cap - (p + 1)) (fun h => rfl)) ?_)
  obtain ⟨w1, hw1⟩ : ∃ x, x = w.drew.setRow g S.toArray := ⟨_, rfl⟩
  rw [← hw1]
  obtain ⟨hg1, hr1⟩ := HRE.out w1 hw1
  have HG1 := hid hg1
  have HR1 := hid hr1
  clear hw1 hg1 hr1 hq1 hq2 hq3
  go_wp2_with (refine wpList_clear_rowN rfl _ 136 rfl 163 (.agg #[.int .i64 0, .slice none 0 0]) Tryz.underlying136 zero_run g (m * 2) 1 _ (by simp [Act.eval, Act.put]; rfl) S 163 HG1.out rfl (by decide) HF2.out zone ?_; intro w2 hw2; have HR2 := hid (HR1.out w2 hw2); clear hw2)
  go_ret
  exact ⟨rfl, HR2.out⟩
theorem bsf_none (w : World) (c : Int) (k : Int) (f : Value) : Calls Tryz.prog 131 #[.slice none 0 0, .int .i64 k, f] w fun e w' => e = .returned (.tuple #[.int .i64 0, .bool false]) ∧ w = w' := by
 go_enter Tryz.func131, Tryz.ntmps131
 go_wp2
 refine wp_loop_rounds 1 ?_
 rw [rounds_succ]
 go_wp2
 go_ret2
 exact ⟨by simp, rfl⟩
theorem ins_any (w : World) (base : Nat) (v : Value) (R : List Rw) (r : Rw) (nb p : Nat) (hw : Wide 2 R) (hr : Wide 2 [r]) (hl : R.length ≤ 1000000) (hp : p ≤ R.length) (hown : w.ownsRow base 163 2 v R.length (flat R)) (hb : base ≤ w.heap.size) (hne : v.ownBlock ≠ some nb)
  (hn : w.heap[nb]? = some (.cells (rcells r).toArray 163 (0, 0))) :
  Calls Tryz.prog 123 #[v, .int .i64 p, .slice (some ⟨nb, 0, none⟩) 1 1] w fun e w' => ∃ v', e = .returned v' ∧ InsPost w w' base v v' (R.take p ++ r :: R.drop p) := by
 by_cases h : p = R.length
 ·subst h
  rw [List.take_length, List.drop_length]
  exact ins_end w base v R r nb hw hr hl hown hb hn
 ·rcases hown.2 with ⟨_, h0⟩ | ⟨g, cap, cur, rfl, q1, q2, q3, q4, q5, q6⟩
  ·omega
  ·have hcur : cur = (flat R ++ cur.toList.drop (R.length * 2)).toArray := by
    rw [← q6, List.take_append_drop]
   have hlen : (flat R ++ cur.toList.drop (R.length * 2)).length = cap * 2 := by
    rw [← q5, ← Array.length_toList, ← q6, List.take_append_drop]
   rw [hcur] at q2
   by_cases hroom : R.length + 1 ≤ cap
   ·exact ins_room w base g cap p R _ r nb hw hr hl (by omega) hroom q4 q1 q2 hlen (by intro e; subst e; exact hne rfl) hn
   ·exact ins_grow w base g cap p R _ r nb hw hr hl (by omega) q3 (by omega) hb q2 hn
structure TabAt (w : World) (b o base : Nat) (v : Value) (R : List Rw) : Prop where
 cell : w.cell? ⟨b, o, none⟩ = some v
 froz : w.frozen? ⟨b, o, none⟩ = false
 row : w.ownsRow base 163 2 v R.length (flat R)
 ne : b < base
 base : base ≤ w.heap.size
 wide : Wide 2 R
 asc : Asc R
 le : R.length ≤ 1000000
structure Only (w w' : World) (b o : Nat) (v v' : Value) : Prop where
 os : w'.os = w.os
 tape : w'.tape = w.tape
 output : w'.output = w.output
 size : w.heap.size ≤ w'.heap.size
 block : ∀ k, k < w.heap.size → k ≠ b → v.ownBlock ≠ some k → w'.heap[k]? = w.heap[k]?
 cells : ∀ j, j ≠ o → w'.cell? ⟨b, j, none⟩ = w.cell? ⟨b, j, none⟩
 frozs : ∀ j, w'.frozen? ⟨b, j, none⟩ = w.frozen? ⟨b, j, none⟩
 foot : v'.ownBlock = v.ownBlock ∨ ∃ g, v'.ownBlock = some g ∧ w.heap.size ≤ g
theorem row_of_block {w w' : World} {base : Nat} {e : TypeId} {s : Nat} {v : Value} {n : Nat} {xs : List Value} (h : w.ownsRow base e s v n xs) (k : ∀ g, v.ownBlock = some g → w'.heap[g]? = w.heap[g]?) : w'.ownsRow base e s v n xs := by
 refine ⟨h.1, ?_⟩
 rcases h.2 with h2 | ⟨g, cap, cur, rfl, q1, q2, q3⟩
 ·exact .inl h2
 ·exact .inr ⟨g, cap, cur, rfl, q1, (k g rfl).trans q2, q3⟩
theorem TabAt.lt {w : World} {b o base : Nat} {v : Value} {R : List Rw} (h : TabAt w b o base v R) : b < w.heap.size := Nat.lt_of_lt_of_le h.ne h.base
theorem TabAt.own {w : World} {b o base g : Nat} {v : Value} {R : List Rw} (h : TabAt w b o base v R) (hg : v.ownBlock = some g) : base ≤ g ∧ g < w.heap.size := h.row.lt g hg
theorem TabAt.of {w w' : World} {b o base : Nat} {v : Value} {R : List Rw} (h : TabAt w b o base v R) (hs : w.heap.size ≤ w'.heap.size) (hc : w'.cell? ⟨b, o, none⟩ = w.cell? ⟨b, o, none⟩) (hf : w'.frozen? ⟨b, o, none⟩ = w.frozen? ⟨b, o, none⟩) (hg : ∀ g, v.ownBlock = some g → w'.heap[g]? = w.heap[g]?) : TabAt w' b o base v R :=
 ⟨hc.trans h.cell, hf.trans h.froz, row_of_block h.row hg, h.ne, Nat.le_trans h.base hs, h.wide, h.asc, h.le⟩
theorem TabAt.call {w w' : World} {b o base : Nat} {v : Value} {R : List Rw} (h : TabAt w b o base v R) (hb : Below w.heap.size w w') : TabAt w' b o base v R :=
 h.of hb.size (hb.cell (p := ⟨b, o, none⟩) h.lt) (hb.frozen (p := ⟨b, o, none⟩) h.lt) (fun g hg => hb.block g (h.own hg).2)
theorem TabAt.form {w : World} {b o base : Nat} {v : Value} {R : List Rw} (h : TabAt w b o base v R) : (v = .slice none 0 0 ∧ R = []) ∨ ∃ g c, v = .slice (some ⟨g, 0, none⟩) R.length c ∧ g < w.heap.size ∧ base ≤ g ∧ R.length ≤ c ∧ c ≤ maxLen ∧ RowsIn w g R := by
 rcases h.row.2 with ⟨h1, h2⟩ | ⟨g, cap, cur, rfl, q1, q2, q3, q4, q5, q6⟩
 ·exact .inl ⟨h1, List.length_eq_zero_iff.1 h2⟩
 ·refine .inr ⟨g, cap, rfl, (ags q2).1, q1, q3, q4, fun i j r u hi hj => ?_⟩
  have e := h.row.cells (g := g) rfl _ _ (flat_get h.wide hi hj)
  have ha : ((⟨g, 0, none⟩ : Addr).add (i * 2 + j)) = ⟨g, i * 2 + j, none⟩ := by unfold Addr.add; split <;> simp_all
  rwa [ha] at e
theorem find_any (w : World) (b o base : Nat) (v : Value) (R : List Rw) (k : Int) (h : TabAt w b o base v R) :
  Calls Tryz.prog 122 #[.pointer (some ⟨b, o, none⟩), .int .i64 k] w fun e w' => e = .returned (.tuple #[.int .i64 (posR R k : Nat), .bool (hasR R k)]) ∧ Below w.heap.size w w' := by
 have hc := h.cell
 have HT := hid h
 rcases h.form with ⟨rfl, rfl⟩ | ⟨g, c, rfl, hg, _, _, _, hr⟩
 ·clear h
  go_enter Tryz.func122, Tryz.ntmps122
  go_wp2_with (go_at_call 131; refine (bsf_none _ 0 _ _).mono ?_; rintro e w1 ⟨rfl, rfl⟩)
  go_ret2
  exact ⟨rfl, Below.refl _ _⟩
 ·have HR := hid hr
  clear h hr
  go_enter Tryz.func122, Tryz.ntmps122
  go_wp2_with (go_at_call 131; refine (bsf_any _ g c R k hg HT.out.wide HT.out.asc HT.out.le HR.out).mono ?_; rintro e w1 ⟨rfl, hb1⟩)
  go_ret2
  exact ⟨rfl, hb1⟩
def placeV (v : Value) (p : Nat) : Bool → Value
 | true => .pointer (v.ownBlock.map fun g => ⟨g, p * 2 + 1, none⟩)
 | false => .pointer none
theorem get_any (w : World) (b o base : Nat) (v : Value) (R : List Rw) (k : Int) (h : TabAt w b o base v R) :
  Calls Tryz.prog 114 #[.pointer (some ⟨b, o, none⟩), .int .i64 k] w fun e w' => e = .returned (.tuple #[placeV v (posR R k) (hasR R k), .bool (hasR R k)]) ∧ Below w.heap.size w w' := by
 have HT := hid h
 cases hh : hasR R k with
 | false =>
  have HH := hid hh
  clear h hh
  go_enter Tryz.func114, Tryz.ntmps114
  go_wp2_with (go_at_call 122; refine (find_any _ b o base v R k HT.out).mono ?_; rw [HH.out]; rintro e w1 ⟨rfl, hb1⟩)
  go_ret2
  exact ⟨rfl, hb1⟩
 | true =>
  obtain ⟨x, hx, _⟩ := (hasR_at h.asc).1 hh
  have hpl := (lgs hx).1
  have hle := h.le
  have HH := hid hh
  have hc := h.cell
  have hbl := h.lt
  rcases h.form with ⟨rfl, rfl⟩ | ⟨g, c, rfl, hg, _, _, _, hr⟩
  ·simp at hx
  ·clear h hh hr hx
   generalize hp : posR R k = p at *
   have HP := hid hp
   clear hp
   go_enter Tryz.func114, Tryz.ntmps114
   go_wp2_with (go_at_call 122; refine (find_any _ b o base _ R k HT.out).mono ?_; rw [HH.out, HP.out]; rintro e w1 ⟨rfl, hb1⟩; obtain ⟨hc1, hf1⟩ := bcell hb1; have hz1 : w.heap.size ≤ w1.heap.size := hb1.size)
   go_ret2
   exact ⟨rfl, hb1⟩
end TabS
end
end Go.Proofs.YtchjfeafkmpmbaaGreatDoor
