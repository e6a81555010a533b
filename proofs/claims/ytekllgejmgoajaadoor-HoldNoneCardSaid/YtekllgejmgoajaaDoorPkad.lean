import Derived.Test.YtekllgejmgoajaaDoorPkac
import Derived.Deep.Cut
import Derived.BigRegion
namespace Go.Proofs.YtekllgejmgoajaaDoor
set_option linter.unusedVariables false
set_option linter.unusedSimpArgs false
set_option maxRecDepth 100000
set_option maxHeartbeats 8000000
open Lib (hid)
section
open Go.ChangeShapes Go.WideShapes Go.ChangeAt Go.RowKit
namespace TabS
theorem sizeR (w : World) : (Go.sizeOf 115).run Tryd.prog w = .ok 2 w := by
 obtain ⟨i0, hi, hz0, hz1, hz2⟩ := info_parts infoR
 simp [Go.sizeOf, typeInfo, hi, hz1]
theorem overlaps_no (w : World) (nb g off la ca lb cb kA kB : Nat) (tA tB : TypeId) (hne : nb ≠ g) (hA : w.shape? nb = some (tA, kA)) (hB : w.shape? g = some (tB, kB)) (hk : kB ≠ 0) (hfa : w.frozen? ⟨nb, 0, none⟩ = false) (hfe : w.frozen? ⟨nb, kA, none⟩ = false) :
  (callFunc 80 #[.slice (some ⟨nb, 0, none⟩) la ca, .slice (some ⟨g, off, none⟩) lb cb]).run Tryd.prog w = .ok (.value (.bool false)) w := by
 rw [run_callFunc_extern Tryd.func80 (by kernel_rfl) (by kernel_rfl) (by kernel_rfl) (e := Extern.SlicesOverlaps.overlaps #[86, 86] #[4]) (by kernel_rfl),
  Lib.run_overlaps_apart w 86 4 115 Tryd.underlying86 2 sizeR ⟨nb, 0, none⟩ ⟨g, off, none⟩ la ca lb cb hne tA tB kA kB hA hB hk hfa hfe]
 rfl
theorem shape_row {w : World} {g : Nat} {cur : Array Value} {t : TypeId} {fr : Nat × Nat} (h : w.heap[g]? = some (.cells cur t fr)) : w.shape? g = some (t, cur.size) := by simp [World.shape?, h]
theorem froz_row {w : World} {g o : Nat} {cur : Array Value} {t : TypeId} (h : w.heap[g]? = some (.cells cur t (0, 0))) : w.frozen? ⟨g, o, none⟩ = false := by simp [World.frozen?, h]
theorem ins_room (w : World) (base g cap p : Nat) (R : List Rw) (D : List Value) (r : Rw) (nb : Nat) (hw : Wide 2 R) (hr : Wide 2 [r]) (hl : R.length ≤ 1000000) (hp : p < R.length) (hcap : R.length + 1 ≤ cap) (hcm : cap ≤ maxLen) (hbg : base ≤ g)
  (hg : w.heap[g]? = some (.cells (flat R ++ D).toArray 115 (0, 0))) (hD : (flat R ++ D).length = cap * 2) (hne : nb ≠ g)
  (hn : w.heap[nb]? = some (.cells (rcells r).toArray 115 (0, 0))) :
  Calls Tryd.prog 71 #[.slice (some ⟨g, 0, none⟩) R.length cap, .int .i64 p, .slice (some ⟨nb, 0, none⟩) 1 1] w fun e w' => ∃ v', e = .returned v' ∧ InsPost w w' base (.slice (some ⟨g, 0, none⟩) R.length cap) v' (R.take p ++ r :: R.drop p) := by
 obtain ⟨i0, hi, hz0, hz1, hz2⟩ := info_parts infoR
 have hlr : (rcells r).length = 2 := (hr r (by simp)).1
 have h1 : ∀ u ∈ rcells r, u.oneCell' = true := (hr r (by simp)).2
 have hcur : flat R ++ D = flat (R.take p) ++ (flat (R.drop p) ++ D) := by
  rw [← List.append_assoc, ← flat_append, List.take_append_drop]
 have lA : (flat (R.take p)).length = p * 2 := by rw [flat_length (hw.take p), List.length_take, Nat.min_eq_left (by omega)]
 have lX : (flat (R.drop p)).length = (R.length - p) * 2 := by rw [flat_length (hw.drop p), List.length_drop]
 have oX := flat_one (hw.drop p)
 have e2 : (R.take p ++ r :: R.drop p).length = R.length + 1 := by simp; omega
 have e1 : flat (R.take p ++ r :: R.drop p) = flat (R.take p) ++ (rcells r ++ flat (R.drop p)) := by rw [flat_append, flat_cons]
 rw [hcur] at hg hD
 unfold InsPost
 rw [e1, e2]
 have lD : (flat (R.take p)).length + ((flat (R.drop p)).length + D.length) = cap * 2 := by rw [← hD]; simp
 generalize flat (R.take p) = A at *
 generalize flat (R.drop p) = X at *
 generalize R.length = n at *
 clear hcur e1 e2 hw hr hD
 generalize hY : rcells r = Y at *
 clear hY
 have hDl : 2 ≤ D.length := by rw [lA, lX] at lD; omega
 have hov := fun la ca lb cb => overlaps_no w nb g ((p + 1) * 2) la ca lb cb Y.toArray.size _ _ _ hne (shape_row hn) (shape_row hg) (by rw [List.size_toArray]; simp only [List.length_append]; omega) (froz_row hn) (froz_row hn)
 have hlt : (p : Int) < n := by omega
 have hpn : ¬ (p : Int) = n := by omega
 have hcc : ¬ (cap : Int) < (n : Int) + 1 := by omega
 have hc1 : ¬ cap = p + 1 := by omega
 have hc0 : ¬ cap = p := by omega
 have hcap63 : cap ≤ 9223372036854775807 := by unfold maxLen at hcm; omega
 have hx1 : ∀ j u, X[j]? = some u → w.cell? ((⟨g, p * 2, none⟩ : Addr).add j) = some u := add_cells_off (fun j u hj => by
  rw [cell_cur hg, ← lA, List.getElem?_append_right (by omega), Nat.add_sub_cancel_left, List.getElem?_append_left (lgs hj).1]
  exact hj)
 have hy1 : ∀ j u, Y[j]? = some u → w.cell? ((⟨nb, 0, none⟩ : Addr).add j) = some u := add_cells (fun j u hj => by rw [cell_cur hn]; exact hj)
 have HG := hid hg
 have hgd : w.drew.heap[g]? = some (.cells (A ++ (X ++ D)).toArray 115 (0, 0)) := hg
 have hxd : ∀ j u, X[j]? = some u → w.drew.cell? ((⟨g, p * 2, none⟩ : Addr).add j) = some u := hx1
 have HGD := hid hgd
 have HXD := hid hxd
 have HN := hid hn
 have HX := hid hx1
 have HY := hid hy1
 have LA := hid lA
 have LX := hid lX
 have LD := hid lD
 have LR := hid hlr
 have OX := hid oX
 have OY := hid h1
 have HI := hid hi
 have HZ := hid hz1
 have HDL := hid hDl
 clear hg hgd hxd hn hx1 hy1 lA lX lD hlr oX h1 hi hz0 hz1 hz2 hDl
 go_enter Tryd.func71, Tryd.ntmps71
 go_upto_region 15 with (simp only [hov])
 have LAo := LA.out
 have LXo := LX.out
 have LDo := LD.out
 have hDl2 := HDL.out
 have LRo := LR.out
 have hn1 : ∀ s d : Nat, s = n + 1 - p → d = n + 1 - (p + 1) → X.length = Nat.min s d * i0.size := by
  intro s d hs hd
  rw [LXo, HZ.out, show Nat.min s d = d from Nat.min_eq_right (by omega)]
  congr 1; omega
 have hn2 : ∀ s d : Nat, s = 1 → d = n + 1 - p → Y.length = Nat.min s d * i0.size := by
  intro s d hs hd
  rw [LRo, HZ.out, show Nat.min s d = s from Nat.min_eq_left (by omega)]
  omega
 have hf1 : (p + 1) * 2 + X.length ≤ (A ++ (X ++ D)).length := by simp only [List.length_append]; omega
 have hf2 : p * 2 + Y.length ≤ (splice (A ++ (X ++ D)) ((p + 1) * 2) X).length := by
  rw [length_splice' _ _ _ hf1]; simp only [List.length_append]; omega
 have hsp : splice (splice (A ++ (X ++ D)) ((p + 1) * 2) X) (p * 2) Y = A ++ (Y ++ (X ++ D.drop Y.length)) := by
  have := splice_up A X Y D (by omega)
  rw [LAo, LRo] at this
  rw [LRo, ← this, show (p + 1) * 2 = p * 2 + 2 by omega]
 have hq1 : IntKind.i64.wrap ((p : Int) + 1) = (p : Int) + 1 := IntWalk.i64_in _ (by omega)
 have hq2 : ((p : Int) + 1).toNat = p + 1 := by omega
 have hq3 : (0 : Int) ≤ (p : Int) + 1 := by omega
 have hq4 : p ≤ n := by omega
 have hq5 : (p : Int) ≤ (n : Int) + 1 := by omega
 have HN1 := hid hn1
 have HN2 := hid hn2
 have HF1 := hid hf1
 have HF2 := hid hf2
 have HSP := hid hsp
 clear hn1 hn2 hf1 hf2 hsp hDl2 LAo LXo LDo LRo
 go_region_law (refine step_copy_rowN rfl _ _ 86 86 rfl 115 i0 Tryd.underlying86 HI.out g ((p + 1) * 2) (n - p) (cap - (p + 1)) ⟨g, p * 2, none⟩ (n + 1 - p) (cap - p) (by simp [Act.eval, Act.put]) (by simp [Act.eval, Act.put]) (A ++ (X ++ D)) 115 HGD.out X (HN1.out (n + 1 - p) (n - p) rfl (by omega)) HXD.out HF1.out OX.out ?_; intro w1 hw1)
 obtain ⟨w1, hw1⟩ : ∃ x, x = w.drew.setRow g (splice (A ++ (X ++ D)) ((p + 1) * 2) X).toArray := ⟨_, rfl⟩
 rw [← hw1]
 have hg1 : w1.heap[g]? = some (.cells (splice (A ++ (X ++ D)) ((p + 1) * 2) X).toArray 115 (0, 0)) := by rw [hw1]; exact setRow_heap w.drew g _ _ _ _ HGD.out
 have hn1 : w1.heap[nb]? = some (.cells Y.toArray 115 (0, 0)) := by rw [hw1]; exact (setRow_other w.drew g nb _ hne).trans HN.out
 have hgr1 : w.grownBy w1 (some g) := by rw [hw1]; exact grown_trans (⟨rfl, rfl, rfl, Nat.le_refl _, fun _ _ _ => rfl⟩ : w.grownBy w.drew (some g)) (grown_setRow _ _ _)
 have hy1 : ∀ j u, Y[j]? = some u → w1.cell? ((⟨nb, 0, none⟩ : Addr).add j) = some u := add_cells (fun j u hj => by rw [cell_cur hn1]; exact hj)
 have HG1 := hid hg1
 have HGR := hid hgr1
 have HY1 := hid hy1
 clear hw1 hg1 hn1 hgr1 hy1 hov
 go_wp2_with (first | refine wpList_copy_rowN rfl _ _ 86 86 rfl 115 i0 Tryd.underlying86 HI.out g (p * 2) (n + 1 - p) (cap - p) ⟨nb, 0, none⟩ 1 1 (by simp [Act.eval, Act.put]) (by simp [Act.eval, Act.put]) (splice (A ++ (X ++ D)) ((p + 1) * 2) X) 115 HG1.out Y (HN2.out 1 (n + 1 - p) rfl rfl) HY1.out HF2.out OY.out ?_; intro w2 hw2; have hg2 : w2.heap[g]? = some (.cells (splice (splice (A ++ (X ++ D)) ((p + 1) * 2) X) (p * 2) Y).toArray 115 (0, 0)) := (by rw [hw2]; exact setRow_heap w1 g _ _ _ _ HG1.out); have HG2 := hid hg2; have HGR2 := hid (show w.grownBy w2 (some g) by rw [hw2]; exact grown_trans HGR.out (grown_setRow _ _ _)); clear hg2 hw2)
 go_ret
 have hg2 := HG2.out
 rw [HSP.out] at hg2
 have LAo := LA.out
 have LXo := LX.out
 have LDo := LD.out
 have LRo := LR.out
 have hDl2 := HDL.out
 have hlen : (A ++ (Y ++ X)).length = (n + 1) * 2 := by simp only [List.length_append]; omega
 refine ⟨_, rfl, ⟨hlen, .inr ⟨g, cap, _, rfl, hbg, hg2, hcap, hcm, ?_, ?_⟩⟩, HGR2.out, .inl rfl⟩
 ·simp only [List.size_toArray, List.length_append, List.length_drop]; omega
 ·rw [← hlen]
  have : A ++ (Y ++ (X ++ D.drop Y.length)) = (A ++ (Y ++ X)) ++ D.drop Y.length := by simp
  simp only [this]
  exact List.take_left
end TabS
end
end Go.Proofs.YtekllgejmgoajaaDoor
