/- package tlb: All. -/
import Derived.Test.YtedapbliebiblaaTkG
import Derived.Test.YtedapbliebiblaaApp
import Derived.Maps.AppendAt
import Derived.Stop.RegionWithIn

namespace Go.Proofs.Ytedapbliebiblaa
set_option linter.unusedVariables false
open Go.RowKit Go.Shelf

attribute [local go_sem] Oper.semAt_some
def cellsT (t : TransX) : List Value := [.int .i64 t.s, .int .i64 t.p, .int .i64 t.f, .bool t.r, .bool t.w]
theorem infoT : (Try.prog.info? 52).map (fun i => (i.zero, i.size, i.bytes)) = some (some (.agg #[.int .i64 0, .int .i64 0, .int .i64 0, .bool false, .bool false]), 5, 32) := by kernel_rfl
/-- What All has gathered. -/
def AllAt (w : World) (b : Nat) (S : Nat → TransX × TransX × Int) (pre : List (Nat × Nat)) (W : World) : Prop :=
  (∃ v, Boxed W w.heap.size 61 v ∧ W.ownsRow w.heap.size 52 5 v pre.length (pre.flatMap fun p => cellsT (wayP S p)) ∧ (v = .slice none 0 0 ↔ pre = [])) ∧
    Boxed W (w.heap.size + 1) 75 (.pointer (some ⟨b, 0, none⟩)) ∧ Below w.heap.size w W
theorem grown_of_drew {w w' : World} {row : Option Nat} (h : w.drew.grownBy w' row) : w.grownBy w' row := ⟨h.os, h.tape, h.output, h.size, h.block⟩
theorem if_pos_mk {b : Bool} {p q : Prop} (h : b = true) (hp : p) : if b = true then p else q := by rw [if_pos h]; exact hp
theorem cells_new5 (W : World) (x : TransX) (t : TypeId) : ∀ (j : Nat) (u : Value), (cellsT x)[j]? = some u → ((W.alloc (.cells (cellsT x).toArray t)).drew).cell? ((⟨W.heap.size, 0, none⟩ : Addr).add j) = some u := by
  intro j u hj
  match j, hj with
  | 0, hj => simp [cellsT] at hj; subst hj; simp [go_sem, cellsT, Addr.add]
  | 1, hj => simp [cellsT] at hj; subst hj; simp [go_sem, cellsT, Addr.add]
  | 2, hj => simp [cellsT] at hj; subst hj; simp [go_sem, cellsT, Addr.add]
  | 3, hj => simp [cellsT] at hj; subst hj; simp [go_sem, cellsT, Addr.add]
  | 4, hj => simp [cellsT] at hj; subst hj; simp [go_sem, cellsT, Addr.add]
  | j + 5, hj => simp [cellsT] at hj
set_option maxRecDepth 100000 in
set_option maxHeartbeats 4000000 in
theorem all_in (w : World) (b : Nat) (S : Nat → TransX × TransX × Int) (hT : TlbAt w b S) (hok : ∀ k j, k < 4 → j < 2 → OkT (wayP S (k, j))) :
    CallsIn Fence.wide 3 Try.prog 49 #[.pointer (some ⟨b, 0, none⟩)] w fun e W' => ∃ v, e = .returned v ∧ W'.ownsRow w.heap.size 52 5 v (fullP S 8).length ((fullP S 8).flatMap fun p => cellsT (wayP S p)) ∧ (v = .slice none 0 0 ↔ fullP S 8 = []) ∧ Below w.heap.size w W' := by
  obtain ⟨i0, hi, hz0, hz1, hz2⟩ := info_parts infoT
  have HO := Lib.hid hok
  have HT := Lib.hid hT
  have hb := hT.lt
  clear hok hT
  refine callsIn_of_wp_marks Try.func49 rfl trivial ?_ rfl
  simp only [Try.ntmps49, List.size_toArray, List.length_cons, List.length_nil, Nat.reduceAdd, Nat.reduceSub, Array.replicate_succ, Array.replicate_zero, List.push_toArray, List.append_toArray, List.nil_append, List.cons_append]
  gi_wp2_with (refine ⟨trivial, ?_⟩; gi_at_call 66; refine (each_in _ _ _).mono ?_; rintro e w' ⟨rfl, rfl⟩)
  have inv : AllAt w b S [] ((w.alloc (.cells #[.slice none 0 0] 61)).alloc (.cells #[.pointer (some ⟨b, 0, none⟩)] 75)) :=
    ⟨⟨_, (Boxed.new w _ _).alloc _, World.ownsRow_nil .., by simp⟩, by have := Boxed.new (w.alloc (.cells #[.slice none 0 0] 61)) 75 (.pointer (some ⟨b, 0, none⟩)); simpa using this, bal (bal (Below.refl _ _) _) _⟩
  have hI : OwnFrom ((w.alloc (.cells #[.slice none 0 0] 61)).alloc (.cells #[.pointer (some ⟨b, 0, none⟩)] 75)).heap.size (AllAt w b S) :=
    OwnFrom.and (Own.from (holdsRow_own w.heap.size w.heap.size 61 52 5 (fun pre : List (Nat × Nat) => pre.length) (fun pre => pre.flatMap fun p => cellsT (wayP S p)) (fun pre v => v = .slice none 0 0 ↔ pre = [])) _) (OwnFrom.and (Own.from (boxed_own _ _ _) _) (ownFrom_below (Nat.le_refl _) (by simp; omega)))
  refine wpIn_range_linked (α := Nat × Nat) rfl (by decide) (gf := 79) (lb := #[.pointer (some ⟨w.heap.size + 1, 0, none⟩)]) rfl trivial (enters_of Try.func79 (by kernel_rfl) rfl)
    (encs := fun x => #[.pointer (some ⟨b, x.1 * 11 + x.2 * 5, none⟩)]) (V := fun x => x.1 < 4 ∧ x.2 < 2) (S := fun xs => xs = fullP S 8) (N := 8) (AllAt w b S) ?hseq (fun _ => rfl) hI inv
    (fun x => { tmps := #[.pointer (some ⟨b, 0, none⟩), undef, .slice none 0 0, .pointer (some ⟨w.heap.size, 0, none⟩), .pointer (some ⟨b, x.1 * 11 + x.2 * 5, none⟩), .pointer (some ⟨b, 0, none⟩), .func (.func 79) #[] #[.pointer (some ⟨w.heap.size + 1, 0, none⟩)], .pointer (some ⟨b, x.1 * 11 + x.2 * 5, none⟩), undef, undef, undef, undef, undef, undef, undef], defers := [] }) ?hassign ?hbody ?hdone
  case hseq =>
    intro l J W hB hAb hJI hY h0
    exact each1_linked _ l b (w.heap.size + 1) W S HO.out J hY h0 (fun pre W1 hJ => ⟨⟨_, HT.out.call (hJI pre W1 hJ).2.2, fun k j hk hj hn => rfl⟩, (hJI pre W1 hJ).2.1.cell⟩)
  case hassign =>
    intro l x W K hK
    gi_wp2
    exact hK
  case hbody =>
    rintro l pre ⟨k, j⟩ W ⟨hk, hj⟩ ⟨⟨v, hv, hrow, hnil⟩, hbx, hB⟩ hlen
    simp only at hk hj
    obtain ⟨c0, c1, c2, c3, c4⟩ := way_cells (HT.out.call hB) hk hj
    have hvc := hv.cell
    gi_wp2
    have hzl := hv.lt
    have hr2 : (((W.alloc (.cells (cellsT (wayP S (k, j))).toArray 52))).drew).ownsRow w.heap.size 52 5 v pre.length (pre.flatMap fun p => cellsT (wayP S p)) := hrow.alloc _
    have hc2 := cells_new5 W (wayP S (k, j)) 52
    have HR2 := Lib.hid hr2
    have HC2 := Lib.hid hc2
    clear hr2 hc2
    refine wpIn_region_any (by kernel_rfl) ?_
    try (change wpAnyIn _ _ _ _ _ _ _ _ _ (World.drew _))
    refine wpAnyIn_ready (rs := [0, 1]) (by kernel_rfl) (by simp) (AllReadyIn.cons rfl (fun K hK => ?_) (AllReadyIn.cons rfl (fun K hK => ?_) AllReadyIn.nil))
    · go_simp
      refine hK _ _ ?_
      clear hK K
      refine wpAnyIn_ready (rs := [1]) (by kernel_rfl) (by simp) (AllReadyIn.cons rfl (fun K hK => ?_) AllReadyIn.nil)
      go_simp
      refine hK _ _ ?_
      clear hK K
      refine wpAnyIn_ready (rs := [2]) (by kernel_rfl) (by simp) (AllReadyIn.cons rfl (fun K hK => ?_) AllReadyIn.nil)
      go_simp
      refine hK _ _ ?_
      clear hK K
      refine wpAnyIn_ready (rs := [3]) (by kernel_rfl) (by simp) (AllReadyIn.cons rfl (fun K hK => ?_) AllReadyIn.nil)
      go_simp
      refine hK _ _ ?_
      clear hK K
      refine wpAnyIn_ready (rs := [4]) (by kernel_rfl) (by simp) (AllReadyIn.cons rfl (fun K hK => ?_) AllReadyIn.nil)
      go_simp
      refine hK _ _ ?_
      clear hK K
      refine wpAnyIn_ready (rs := [5]) (by kernel_rfl) (by simp) (AllReadyIn.cons rfl (fun K hK => ?_) AllReadyIn.nil)
      refine if_pos_mk (by rfl) ?_
      refine opIn_append_own (.tmp 8) (.tmp 12) 61 rfl w.heap.size 52 i0 _ 5 32 Try.underlying61 hi hz0 hz1 hz2 rfl (by decide) v pre.length _ rfl (HR2.out) ⟨W.heap.size, 0, none⟩ 1 1 (cellsT (wayP S (k, j))) rfl rfl HC2.out (by simp [cellsT, Value.oneCell']) (by unfold maxLen; omega) (by omega) (by have := hB.size; simp; omega) ?_
      intro v' w1 hown' hgrow hn2
      refine hK _ _ ?_
      clear hK K
      obtain ⟨g', cap', rfl⟩ := ownsRow_succ hown'
      obtain ⟨hv1, hv2, hr2, hk2, hb2⟩ := hv.appended (tmp := .cells (cellsT (wayP S (k, j))).toArray 52) (by decide) hrow hB.size (Nat.le_refl _) hown' (grown_of_drew hgrow)
      have hc9 := hv1.cell
      have hf9 := hv1.frozen
      refine wpAnyIn_ready (rs := [6]) (by kernel_rfl) (by simp) (AllReadyIn.cons rfl (fun K hK => ?_) AllReadyIn.nil)
      go_simp
      refine hK _ _ ?_
      clear hK K
      refine wpAnyIn_done (by kernel_rfl) ?_ _
      gi_wp2
      have hbx2 := ((hbx.alloc _).kept (grown_of_drew hgrow) (hbx.not_row (by decide) hrow)).other (B' := w.heap.size) (by omega) (.slice (some ⟨g', 0, none⟩) (pre.length + 1) cap')
      have hfin : AllAt w b S (pre ++ [(k, j)]) (w1.setCell ⟨w.heap.size, 0, none⟩ (.slice (some ⟨g', 0, none⟩) (pre.length + 1) cap')) := ⟨⟨_, hv2, by simpa [List.flatMap_append] using hr2, by simp⟩, hbx2, hB.trans hb2⟩
      first | exact hfin | exact ⟨hk2, hfin⟩ | exact ⟨rfl, hk2, hfin⟩
    · go_simp
      refine hK _ _ ?_
      clear hK K
      refine wpAnyIn_ready (rs := [0, 2]) (by kernel_rfl) (by simp) (AllReadyIn.cons rfl (fun K hK => ?_) (AllReadyIn.cons rfl (fun K hK => ?_) AllReadyIn.nil))
      · go_simp
        refine hK _ _ ?_
        clear hK K
        refine wpAnyIn_ready (rs := [2]) (by kernel_rfl) (by simp) (AllReadyIn.cons rfl (fun K hK => ?_) AllReadyIn.nil)
        go_simp
        refine hK _ _ ?_
        clear hK K
        refine wpAnyIn_ready (rs := [3]) (by kernel_rfl) (by simp) (AllReadyIn.cons rfl (fun K hK => ?_) AllReadyIn.nil)
        go_simp
        refine hK _ _ ?_
        clear hK K
        refine wpAnyIn_ready (rs := [4]) (by kernel_rfl) (by simp) (AllReadyIn.cons rfl (fun K hK => ?_) AllReadyIn.nil)
        go_simp
        refine hK _ _ ?_
        clear hK K
        refine wpAnyIn_ready (rs := [5]) (by kernel_rfl) (by simp) (AllReadyIn.cons rfl (fun K hK => ?_) AllReadyIn.nil)
        refine if_pos_mk (by rfl) ?_
        refine opIn_append_own (.tmp 8) (.tmp 12) 61 rfl w.heap.size 52 i0 _ 5 32 Try.underlying61 hi hz0 hz1 hz2 rfl (by decide) v pre.length _ rfl (HR2.out) ⟨W.heap.size, 0, none⟩ 1 1 (cellsT (wayP S (k, j))) rfl rfl HC2.out (by simp [cellsT, Value.oneCell']) (by unfold maxLen; omega) (by omega) (by have := hB.size; simp; omega) ?_
        intro v' w1 hown' hgrow hn2
        refine hK _ _ ?_
        clear hK K
        obtain ⟨g', cap', rfl⟩ := ownsRow_succ hown'
        obtain ⟨hv1, hv2, hr2, hk2, hb2⟩ := hv.appended (tmp := .cells (cellsT (wayP S (k, j))).toArray 52) (by decide) hrow hB.size (Nat.le_refl _) hown' (grown_of_drew hgrow)
        have hc9 := hv1.cell
        have hf9 := hv1.frozen
        refine wpAnyIn_ready (rs := [6]) (by kernel_rfl) (by simp) (AllReadyIn.cons rfl (fun K hK => ?_) AllReadyIn.nil)
        go_simp
        refine hK _ _ ?_
        clear hK K
        refine wpAnyIn_done (by kernel_rfl) ?_ _
        gi_wp2
        have hbx2 := ((hbx.alloc _).kept (grown_of_drew hgrow) (hbx.not_row (by decide) hrow)).other (B' := w.heap.size) (by omega) (.slice (some ⟨g', 0, none⟩) (pre.length + 1) cap')
        have hfin : AllAt w b S (pre ++ [(k, j)]) (w1.setCell ⟨w.heap.size, 0, none⟩ (.slice (some ⟨g', 0, none⟩) (pre.length + 1) cap')) := ⟨⟨_, hv2, by simpa [List.flatMap_append] using hr2, by simp⟩, hbx2, hB.trans hb2⟩
        first | exact hfin | exact ⟨hk2, hfin⟩ | exact ⟨rfl, hk2, hfin⟩
      · go_simp
        refine hK _ _ ?_
        clear hK K
        refine wpAnyIn_ready (rs := [0, 3]) (by kernel_rfl) (by simp) (AllReadyIn.cons rfl (fun K hK => ?_) (AllReadyIn.cons rfl (fun K hK => ?_) AllReadyIn.nil))
        · go_simp
          refine hK _ _ ?_
          clear hK K
          refine wpAnyIn_ready (rs := [3]) (by kernel_rfl) (by simp) (AllReadyIn.cons rfl (fun K hK => ?_) AllReadyIn.nil)
          go_simp
          refine hK _ _ ?_
          clear hK K
          refine wpAnyIn_ready (rs := [4]) (by kernel_rfl) (by simp) (AllReadyIn.cons rfl (fun K hK => ?_) AllReadyIn.nil)
          go_simp
          refine hK _ _ ?_
          clear hK K
          refine wpAnyIn_ready (rs := [5]) (by kernel_rfl) (by simp) (AllReadyIn.cons rfl (fun K hK => ?_) AllReadyIn.nil)
          refine if_pos_mk (by rfl) ?_
          refine opIn_append_own (.tmp 8) (.tmp 12) 61 rfl w.heap.size 52 i0 _ 5 32 Try.underlying61 hi hz0 hz1 hz2 rfl (by decide) v pre.length _ rfl (HR2.out) ⟨W.heap.size, 0, none⟩ 1 1 (cellsT (wayP S (k, j))) rfl rfl HC2.out (by simp [cellsT, Value.oneCell']) (by unfold maxLen; omega) (by omega) (by have := hB.size; simp; omega) ?_
          intro v' w1 hown' hgrow hn2
          refine hK _ _ ?_
          clear hK K
          obtain ⟨g', cap', rfl⟩ := ownsRow_succ hown'
          obtain ⟨hv1, hv2, hr2, hk2, hb2⟩ := hv.appended (tmp := .cells (cellsT (wayP S (k, j))).toArray 52) (by decide) hrow hB.size (Nat.le_refl _) hown' (grown_of_drew hgrow)
          have hc9 := hv1.cell
          have hf9 := hv1.frozen
          refine wpAnyIn_ready (rs := [6]) (by kernel_rfl) (by simp) (AllReadyIn.cons rfl (fun K hK => ?_) AllReadyIn.nil)
          go_simp
          refine hK _ _ ?_
          clear hK K
          refine wpAnyIn_done (by kernel_rfl) ?_ _
          gi_wp2
          have hbx2 := ((hbx.alloc _).kept (grown_of_drew hgrow) (hbx.not_row (by decide) hrow)).other (B' := w.heap.size) (by omega) (.slice (some ⟨g', 0, none⟩) (pre.length + 1) cap')
          have hfin : AllAt w b S (pre ++ [(k, j)]) (w1.setCell ⟨w.heap.size, 0, none⟩ (.slice (some ⟨g', 0, none⟩) (pre.length + 1) cap')) := ⟨⟨_, hv2, by simpa [List.flatMap_append] using hr2, by simp⟩, hbx2, hB.trans hb2⟩
          first | exact hfin | exact ⟨hk2, hfin⟩ | exact ⟨rfl, hk2, hfin⟩
        · go_simp
          refine hK _ _ ?_
          clear hK K
          refine wpAnyIn_ready (rs := [0, 4]) (by kernel_rfl) (by simp) (AllReadyIn.cons rfl (fun K hK => ?_) (AllReadyIn.cons rfl (fun K hK => ?_) AllReadyIn.nil))
          · go_simp
            refine hK _ _ ?_
            clear hK K
            refine wpAnyIn_ready (rs := [4]) (by kernel_rfl) (by simp) (AllReadyIn.cons rfl (fun K hK => ?_) AllReadyIn.nil)
            go_simp
            refine hK _ _ ?_
            clear hK K
            refine wpAnyIn_ready (rs := [5]) (by kernel_rfl) (by simp) (AllReadyIn.cons rfl (fun K hK => ?_) AllReadyIn.nil)
            refine if_pos_mk (by rfl) ?_
            refine opIn_append_own (.tmp 8) (.tmp 12) 61 rfl w.heap.size 52 i0 _ 5 32 Try.underlying61 hi hz0 hz1 hz2 rfl (by decide) v pre.length _ rfl (HR2.out) ⟨W.heap.size, 0, none⟩ 1 1 (cellsT (wayP S (k, j))) rfl rfl HC2.out (by simp [cellsT, Value.oneCell']) (by unfold maxLen; omega) (by omega) (by have := hB.size; simp; omega) ?_
            intro v' w1 hown' hgrow hn2
            refine hK _ _ ?_
            clear hK K
            obtain ⟨g', cap', rfl⟩ := ownsRow_succ hown'
            obtain ⟨hv1, hv2, hr2, hk2, hb2⟩ := hv.appended (tmp := .cells (cellsT (wayP S (k, j))).toArray 52) (by decide) hrow hB.size (Nat.le_refl _) hown' (grown_of_drew hgrow)
            have hc9 := hv1.cell
            have hf9 := hv1.frozen
            refine wpAnyIn_ready (rs := [6]) (by kernel_rfl) (by simp) (AllReadyIn.cons rfl (fun K hK => ?_) AllReadyIn.nil)
            go_simp
            refine hK _ _ ?_
            clear hK K
            refine wpAnyIn_done (by kernel_rfl) ?_ _
            gi_wp2
            have hbx2 := ((hbx.alloc _).kept (grown_of_drew hgrow) (hbx.not_row (by decide) hrow)).other (B' := w.heap.size) (by omega) (.slice (some ⟨g', 0, none⟩) (pre.length + 1) cap')
            have hfin : AllAt w b S (pre ++ [(k, j)]) (w1.setCell ⟨w.heap.size, 0, none⟩ (.slice (some ⟨g', 0, none⟩) (pre.length + 1) cap')) := ⟨⟨_, hv2, by simpa [List.flatMap_append] using hr2, by simp⟩, hbx2, hB.trans hb2⟩
            first | exact hfin | exact ⟨hk2, hfin⟩ | exact ⟨rfl, hk2, hfin⟩
          · go_simp
            refine hK _ _ ?_
            clear hK K
            refine wpAnyIn_ready (rs := [0]) (by kernel_rfl) (by simp) (AllReadyIn.cons rfl (fun K hK => ?_) AllReadyIn.nil)
            go_simp
            refine hK _ _ ?_
            clear hK K
            refine wpAnyIn_ready (rs := [5]) (by kernel_rfl) (by simp) (AllReadyIn.cons rfl (fun K hK => ?_) AllReadyIn.nil)
            refine if_pos_mk (by rfl) ?_
            refine opIn_append_own (.tmp 8) (.tmp 12) 61 rfl w.heap.size 52 i0 _ 5 32 Try.underlying61 hi hz0 hz1 hz2 rfl (by decide) v pre.length _ rfl (HR2.out) ⟨W.heap.size, 0, none⟩ 1 1 (cellsT (wayP S (k, j))) rfl rfl HC2.out (by simp [cellsT, Value.oneCell']) (by unfold maxLen; omega) (by omega) (by have := hB.size; simp; omega) ?_
            intro v' w1 hown' hgrow hn2
            refine hK _ _ ?_
            clear hK K
            obtain ⟨g', cap', rfl⟩ := ownsRow_succ hown'
            obtain ⟨hv1, hv2, hr2, hk2, hb2⟩ := hv.appended (tmp := .cells (cellsT (wayP S (k, j))).toArray 52) (by decide) hrow hB.size (Nat.le_refl _) hown' (grown_of_drew hgrow)
            have hc9 := hv1.cell
            have hf9 := hv1.frozen
            refine wpAnyIn_ready (rs := [6]) (by kernel_rfl) (by simp) (AllReadyIn.cons rfl (fun K hK => ?_) AllReadyIn.nil)
            go_simp
            refine hK _ _ ?_
            clear hK K
            refine wpAnyIn_done (by kernel_rfl) ?_ _
            gi_wp2
            have hbx2 := ((hbx.alloc _).kept (grown_of_drew hgrow) (hbx.not_row (by decide) hrow)).other (B' := w.heap.size) (by omega) (.slice (some ⟨g', 0, none⟩) (pre.length + 1) cap')
            have hfin : AllAt w b S (pre ++ [(k, j)]) (w1.setCell ⟨w.heap.size, 0, none⟩ (.slice (some ⟨g', 0, none⟩) (pre.length + 1) cap')) := ⟨⟨_, hv2, by simpa [List.flatMap_append] using hr2, by simp⟩, hbx2, hB.trans hb2⟩
            first | exact hfin | exact ⟨hk2, hfin⟩ | exact ⟨rfl, hk2, hfin⟩
  case hdone =>
    rintro D xs W hD rfl ⟨⟨v, hv, hrow, hnil⟩, hbx, hB⟩ hK
    have hvc := hv.cell
    gi_wp2
    refine ⟨by simp, .inl ⟨_, _, rfl, run_takeDeferred hK, ?_⟩⟩
    exact ⟨_, results_tmp rfl _ _ _, v, rfl, ownsRow_putObj hrow _ hK rfl, hnil, hB.trans (belowK_b (w := w) (Nat.le_refl _) W D _ _ (by simp at hD; omega) hK rfl rfl)⟩
end Go.Proofs.Ytedapbliebiblaa
