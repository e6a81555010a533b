/- A table by whole numbers, of any number of rows: slices.Delete of one row. -/
import Derived.Test.YtplanbihejodoaaDoorTab5S
namespace Go.Proofs.YtplanbihejodoaaDoor
set_option linter.unusedVariables false
set_option linter.unusedSimpArgs false
open Go.ChangeShapes Go.WideShapes Go.ChangeAt Go.RowKit

namespace TabS
theorem zero_run (w : World) : (zeroValue 86).run Tryd.prog w = .ok (.agg #[.int .i64 0, .slice none 0 0]) w := by
  obtain ⟨i0, hi, hz0, hz1, hz2⟩ := info_parts infoR
  simp [zeroValue, typeInfo, hi, hz0]
theorem zone : ∀ u ∈ (Value.cells (.agg #[.int .i64 0, .slice none 0 0])).toList, u.oneCell' = true := by
  intro u hu
  have h : (Value.cells (.agg #[.int .i64 0, .slice none 0 0])).toList.all (·.oneCell') = true := by decide +kernel
  exact List.all_eq_true.1 h u hu
set_option maxRecDepth 100000 in
set_option maxHeartbeats 2000000 in
theorem del_run (w : World) (base g cap p m : Nat) (R : List Rw) (D : List Value) (hw : Wide 2 R) (hl : R.length ≤ 1000000) (hm : R.length = m + 1) (hp : p < R.length) (hle : R.length ≤ cap) (hcm : cap ≤ maxLen) (hbg : base ≤ g)
    (hg : w.heap[g]? = some (.cells (flat R ++ D).toArray 86 (0, 0))) (hD : (flat R ++ D).length = cap * 2) :
    Calls Tryd.prog 41 #[.slice (some ⟨g, 0, none⟩) R.length cap, .int .i64 p, .int .i64 ((p : Int) + 1)] w fun e w' => e = .returned (.slice (some ⟨g, 0, none⟩) m cap) ∧ w'.ownsRow base 86 2 (.slice (some ⟨g, 0, none⟩) m cap) m (flat (R.take p ++ R.drop (p + 1))) ∧ w.grownBy w' (some g) := by
  obtain ⟨i0, hi, hz0, hz1, hz2⟩ := info_parts infoR
  have hcur : flat R ++ D = flat (R.take p) ++ (flat ((R.drop p).take 1) ++ (flat (R.drop (p + 1)) ++ D)) := by
    rw [← List.append_assoc, ← List.append_assoc, ← flat_append, ← flat_append]
    congr 2
    rw [List.append_assoc, show R.drop (p + 1) = (R.drop p).drop 1 by rw [List.drop_drop], List.take_append_drop, List.take_append_drop]
  have lA : (flat (R.take p)).length = p * 2 := by rw [flat_length (hw.take p), List.length_take, Nat.min_eq_left (by omega)]
  have lB : (flat ((R.drop p).take 1)).length = 2 := by rw [flat_length ((hw.drop p).take 1), List.length_take, List.length_drop, Nat.min_eq_left (by omega)]
  have lX : (flat (R.drop (p + 1))).length = (R.length - (p + 1)) * 2 := by rw [flat_length (hw.drop (p + 1)), List.length_drop]
  have oX := flat_one (hw.drop (p + 1))
  rw [hcur] at hg hD
  have e1 : flat (R.take p ++ R.drop (p + 1)) = flat (R.take p) ++ flat (R.drop (p + 1)) := flat_append _ _
  rw [e1]
  generalize flat (R.take p) = A at *
  generalize flat ((R.drop p).take 1) = B at *
  generalize flat (R.drop (p + 1)) = X at *
  rw [hm] at lX hp hle hl ⊢
  clear hcur e1 hw hm
  have lall : A.length + (B.length + (X.length + D.length)) = cap * 2 := by rw [← hD]; simp
  have hpm : (p : Int) + 1 ≤ (m : Int) + 1 := by omega
  have hlt : (p : Int) ≤ (m : Int) + 1 := by omega
  have hne : ¬ (p : Int) = (p : Int) + 1 := by omega
  have hcap63 : cap ≤ 9223372036854775807 := by unfold maxLen at hcm; omega
  have hq1 : IntKind.i64.wrap ((p : Int) + 1) = (p : Int) + 1 := IntWalk.i64_in _ (by omega)
  have hq2 : ((p : Int) + 1).toNat = p + 1 := by omega
  have hq3 : (0 : Int) ≤ (p : Int) + 1 := by omega
  have hq4 : p ≤ m := by omega
  have hq5 : p ≤ cap := by omega
  have hq6 : (p : Int) ≤ cap := by omega
  have hq7 : m + 1 - (p + 1) = m - p := by omega
  have hc0 : ¬ cap = p := by omega
  have hc1 : ¬ cap = m := by omega
  have hx1 : ∀ ad : Addr, (¬ cap = p + 1 → ad = ⟨g, (p + 1) * 2, none⟩) → ∀ j u, X[j]? = some u → w.drew.cell? (ad.add j) = some u := by
    intro ad had j u hj
    have hjl := (List.getElem?_eq_some_iff.1 hj).1
    rw [had (by omega)]
    refine add_cells_off (w := w.drew) (fun j u hj => ?_) j u hj
    have hjl := (List.getElem?_eq_some_iff.1 hj).1
    rw [cell_cur (w := w.drew) hg, show (p + 1) * 2 = p * 2 + 2 by omega, ← lA, ← lB, List.getElem?_append_right (by omega), show A.length + B.length + j - A.length = B.length + j by omega, List.getElem?_append_right (by omega), Nat.add_sub_cancel_left, List.getElem?_append_left hjl]
    exact hj
  have happ : ∀ (ad : Addr) (c : Nat), (¬ cap = p + 1 → ad = ⟨g, (p + 1) * 2, none⟩) → (Builtin.append_ #[59, 59] 59 #[.slice (some ⟨g, 0, none⟩) p cap, .slice (some ad) (m - p) c]).run Tryd.prog w.drew = .ok (.slice (some ⟨g, 0, none⟩) m cap) (w.drew.setRow g (splice (A ++ (B ++ (X ++ D))) (p * 2) X).toArray) := by
    intro ad c had
    have h := run_append_room (P := Tryd.prog) w.drew 59 59 86 i0 Tryd.underlying59 hi g p cap _ hg ad (m - p) c X (by rw [lX, hz1]; omega) (hx1 ad had) oX (by omega) (by rw [hz1]; simp only [List.size_toArray, List.length_append]; omega)
    rw [show p + (m - p) = m by omega, hz1] at h
    rw [h]
    simp [splice]
  have hs1 : splice (splice (A ++ (B ++ (X ++ D))) (p * 2) X) (m * 2) (Value.cells (.agg #[.int .i64 0, .slice none 0 0])).toList = (A ++ X) ++ ((Value.cells (.agg #[.int .i64 0, .slice none 0 0])).toList ++ D) := by
    have := splice_down A B X D (Value.cells (.agg #[.int .i64 0, .slice none 0 0])).toList (by rw [lB]; rfl)
    rw [lA, lX, show p * 2 + (m + 1 - (p + 1)) * 2 = m * 2 by omega] at this
    rw [this, List.append_assoc]
  have lz : (Value.cells (.agg #[.int .i64 0, .slice none 0 0])).toList.length = 2 := rfl
  have hf1 : p * 2 + X.length ≤ (A ++ (B ++ (X ++ D))).length := by simp only [List.length_append]; omega
  have hf2 : m * 2 + (Value.cells (.agg #[.int .i64 0, .slice none 0 0])).size ≤ (splice (A ++ (B ++ (X ++ D))) (p * 2) X).length := by
    rw [length_splice' _ _ _ hf1, show (Value.cells (.agg #[.int .i64 0, .slice none 0 0])).size = 2 from rfl]; simp only [List.length_append]; omega
  have hlen : (A ++ X).length = m * 2 := by simp only [List.length_append]; omega
  have hlenZ : ((A ++ X) ++ ((Value.cells (.agg #[.int .i64 0, .slice none 0 0])).toList ++ D)).length = cap * 2 := by simp only [List.length_append, lz]; omega
  have HG := Lib.hid hg
  have HAP := Lib.hid happ
  have HS1 := Lib.hid hs1
  have HF2 := Lib.hid hf2
  have HLEN := Lib.hid hlen
  have HLENZ := Lib.hid hlenZ
  clear hg happ hs1 hf2 hlen hlenZ hx1 hf1 lA lB lX oX hD lall hi hz0 hz1 hz2 lz
  generalize hW : splice (A ++ (B ++ (X ++ D))) (p * 2) X = S at *
  clear hW
  have hrest : ∀ w1 : World, w1 = w.drew.setRow g S.toArray → w1.heap[g]? = some (.cells S.toArray 86 (0, 0)) ∧ ∀ w2, w2 = w1.setRow g (splice S (m * 2) (Value.cells (.agg #[.int .i64 0, .slice none 0 0])).toList).toArray → w2.ownsRow base 86 2 (.slice (some ⟨g, 0, none⟩) m cap) m (A ++ X) ∧ w.grownBy w2 (some g) := by
    rintro w1 rfl
    have hg1 := setRow_heap w.drew g _ S.toArray _ (0, 0) HG.out
    refine ⟨hg1, ?_⟩
    rintro w2 rfl
    rw [HS1.out]
    refine ⟨⟨HLEN.out, .inr ⟨g, cap, _, rfl, hbg, setRow_heap _ g _ _ _ _ hg1, by omega, hcm, ?_, ?_⟩⟩, ?_⟩
    · rw [List.size_toArray]; exact HLENZ.out
    · rw [← HLEN.out]
      simp only []
      exact List.take_left
    · exact grown_trans (grown_trans (⟨rfl, rfl, rfl, Nat.le_refl _, fun _ _ _ => rfl⟩ : w.grownBy w.drew (some g)) (grown_setRow _ _ _)) (grown_setRow _ _ _)
  have HRE := Lib.hid hrest
  clear hrest
  by_cases hpc : cap = p + 1
  · obtain rfl : m = p := by omega
    subst hpc
    have hq8 : (m : Int) ≤ (m : Int) + 1 := by omega
    have HAP0 := HAP.out ⟨g, 0, none⟩ 0 (fun h => absurd rfl h)
    rw [Nat.sub_self] at HAP0
    have HAP1 := Lib.hid HAP0
    clear HAP0 HAP
    go_enter Tryd.func41, Tryd.ntmps41
    go_upto_region 5 with fail
    go_region_law (refine step_append_run rfl _ _ 59 59 rfl (.slice (some ⟨g, 0, none⟩) m (m + 1)) (.slice (some ⟨g, 0, none⟩) 0 0) (by simp [Act.eval, Act.put]) (by simp [Act.eval, Act.put]) _ _ HAP1.out ?_)
    obtain ⟨w1, hw1⟩ : ∃ x, x = w.drew.setRow g S.toArray := ⟨_, rfl⟩
    rw [← hw1]
    obtain ⟨hg1, hr1⟩ := HRE.out w1 hw1
    have HG1 := Lib.hid hg1
    have HR1 := Lib.hid hr1
    clear hw1 hg1 hr1 hq1 hq2 hq3
    go_wp2_with (refine wpList_clear_rowN rfl _ 59 rfl 86 (.agg #[.int .i64 0, .slice none 0 0]) Tryd.underlying59 zero_run g (m * 2) 1 _ (by simp [Act.eval, Act.put]; rfl) S 86 HG1.out rfl (by decide) HF2.out zone ?_; intro w2 hw2; have HR2 := Lib.hid (HR1.out w2 hw2); clear hw2)
    go_ret
    exact ⟨rfl, HR2.out⟩
  · go_enter Tryd.func41, Tryd.ntmps41
    go_upto_region 5 with fail
    go_region_law (refine step_append_run rfl _ _ 59 59 rfl (.slice (some ⟨g, 0, none⟩) p cap) (.slice (some ⟨g, (p + 1) * 2, none⟩) (m - p) (cap - (p + 1))) (by simp [Act.eval, Act.put]) (by simp [Act.eval, Act.put]) _ _ (HAP.out ⟨g, (p + 1) * 2, none⟩ (cap - (p + 1)) (fun h => rfl)) ?_)
    obtain ⟨w1, hw1⟩ : ∃ x, x = w.drew.setRow g S.toArray := ⟨_, rfl⟩
    rw [← hw1]
    obtain ⟨hg1, hr1⟩ := HRE.out w1 hw1
    have HG1 := Lib.hid hg1
    have HR1 := Lib.hid hr1
    clear hw1 hg1 hr1 hq1 hq2 hq3
    go_wp2_with (refine wpList_clear_rowN rfl _ 59 rfl 86 (.agg #[.int .i64 0, .slice none 0 0]) Tryd.underlying59 zero_run g (m * 2) 1 _ (by simp [Act.eval, Act.put]; rfl) S 86 HG1.out rfl (by decide) HF2.out zone ?_; intro w2 hw2; have HR2 := Lib.hid (HR1.out w2 hw2); clear hw2)
    go_ret
    exact ⟨rfl, HR2.out⟩
end TabS
end Go.Proofs.YtplanbihejodoaaDoor
