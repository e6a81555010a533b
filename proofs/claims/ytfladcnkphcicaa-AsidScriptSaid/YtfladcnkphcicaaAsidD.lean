/- package asid: DropPool. -/
import Derived.Test.YtfladcnkphcicaaAsidU
import Derived.Test.YtfladcnkphcicaaApp
import Derived.Maps.AppendAt
namespace Go.Proofs.Ytfladcnkphcicaa
set_option linter.unusedVariables false
set_option linter.unusedSimpArgs false
open Go.ChangeShapes Go.WideShapes Go.ChangeAt Go.RowKit Go.Shelf
attribute [local go_sem] Oper.semAt_some
theorem infoInt : (Try.prog.info? 3).map (fun i => (i.zero, i.size, i.bytes)) = some (some (.int .i64 0), 1, 8) := by kernel_rfl
theorem cell_one_new' (W : World) (v : Value) (t : TypeId) : ∀ j u, ([v] : List Value)[j]? = some u → (W.alloc (.cells #[v] t)).cell? ((⟨W.heap.size, 0, none⟩ : Addr).add j) = some u := by
  intro j u hj
  match j, hj with
  | 0, hj => simp at hj; subst hj; simp [go_sem, Addr.add]
  | j + 1, hj => simp at hj
/-- What a number of a place that is dropped turns. -/
def dstep (pl : Nat) (s : Nums × List Int) (x : Fin 4) : Nums × List Int :=
  if (s.1 (pl * 4 + x.1)).1 = 0 then s else (freeN s.1 (pl * 4 + x.1), s.2 ++ [((pl : Int) * 4 + x.1)])
def dfold (pl : Nat) (N : Nums) (pre : List (Fin 4)) : Nums × List Int := pre.foldl (dstep pl) (N, [])
theorem dfold_snoc (pl : Nat) (N : Nums) (pre : List (Fin 4)) (x : Fin 4) : dfold pl N (pre ++ [x]) = dstep pl (dfold pl N pre) x := by
  unfold dfold
  rw [List.foldl_append]
  rfl
theorem KeepsOthers.of_blk {b j : Nat} {w w' : World} {v : Value} (h : BlkOnly b w w') (hc : w.cell? ⟨b, j, none⟩ = some v) : KeepsOthers w w' := by
  refine ⟨h.size, fun l o hl ho => ?_⟩
  by_cases e : l = b
  · subst e
    simp only [World.cell?, hl] at hc
    cases o <;> simp_all [Obj.isCells]
  · exact (h.block l (Array.getElem?_eq_some_iff.1 hl).1 e).trans hl
theorem BlkOnly.grown {b : Nat} {w w' : World} (h : BlkOnly b w w') : w.grownBy w' (some b) := ⟨h.os, h.tape, h.output, h.size, fun k hk hn => h.block k hk (fun e => hn (by rw [e]))⟩
theorem row_other {B b : Nat} {w w' : World} {e : TypeId} {size : Nat} {v : Value} {n : Nat} {xs : List Value} (h : w.ownsRow B e size v n xs) (ho : BlkOnly b w w') (hb : b < B) : w'.ownsRow B e size v n xs :=
  h.kept ho.grown (.inr (fun e => by have := (h.lt _ e).1; omega))
theorem ownsRow_le {W : World} {lo hi : Nat} {e : TypeId} {size : Nat} {v : Value} {n : Nat} {xs : List Value} (h : W.ownsRow hi e size v n xs) (hle : lo ≤ hi) : W.ownsRow lo e size v n xs :=
  ⟨h.1, h.2.imp id fun ⟨g, cap, cur, a, b, c⟩ => ⟨g, cap, cur, a, Nat.le_trans hle b, c⟩⟩
theorem row_ne {W : World} {hi k : Nat} {e : TypeId} {size : Nat} {v : Value} {n : Nat} {xs : List Value} (h : W.ownsRow hi e size v n xs) (hk : k < hi) : some k ≠ v.ownBlock := fun e => by
  have := (h.lt _ e.symm).1
  omega
theorem asid_pool {w : World} {b pl : Nat} {po : Nat → Int} {tk : Int} {N : Nums} (h : AsidAt w b po tk N) (hpl : pl < 8) (x : Int) : AsidAt (w.setCell ⟨b, pl, none⟩ (.int .i64 x)) b (fun i => if i = pl then x else po i) tk N := by
  refine ⟨fun i hi => ?_, ?_, fun m hm => ?_, fun j => ?_, ?_⟩
  · by_cases e : i = pl
    · subst e
      have := h.pool i hi
      simp [go_sem, this]
    · simp only [if_neg e]
      rw [World.cell?_setCell_other, h.pool i hi]
      intro e2; simp only [Addr.mk.injEq, true_and, and_true] at e2; omega
  · rw [World.cell?_setCell_other, h.taken]
    intro e2; simp only [Addr.mk.injEq, true_and, and_true] at e2; omega
  · obtain ⟨c0, c1, c2⟩ := h.num m hm
    refine ⟨?_, ?_, ?_⟩
    all_goals
      rw [World.cell?_setCell_other]
      · assumption
      · intro e2; simp only [Addr.mk.injEq, true_and, and_true] at e2; omega
  · simp [go_sem, h.free j]
  · simpa using h.lt
theorem after_app (W w1 : World) (B b : Nat) (q : Int) (g' cap' : Nat) (v : Value) (L : List Int) {po : Nat → Int} {tk : Int} {N : Nums} (hrow : W.ownsRow (B + 3) 3 1 v L.length (L.map (Value.int .i64))) (hbB : b ≠ B) (hgrow : (W.alloc (.cells #[.int .i64 q] 3)).grownBy w1 v.ownBlock)
    (hown : w1.ownsRow (B + 3) 3 1 (.slice (some ⟨g', 0, none⟩) (L.length + 1) cap') (L.length + 1) (L.map (Value.int .i64) ++ [.int .i64 q])) (hv1 : Boxed w1 B 42 v) (hv2 : Boxed (w1.setCell ⟨B, 0, none⟩ (.slice (some ⟨g', 0, none⟩) (L.length + 1) cap')) B 42 (.slice (some ⟨g', 0, none⟩) (L.length + 1) cap'))
    (hk2 : KeepsOthers W (w1.setCell ⟨B, 0, none⟩ (.slice (some ⟨g', 0, none⟩) (L.length + 1) cap'))) (hb2 : Below B W (w1.setCell ⟨B, 0, none⟩ (.slice (some ⟨g', 0, none⟩) (L.length + 1) cap'))) (hA : AsidAt W b po tk N) (hb : b < B) (hZ : B + 3 ≤ W.heap.size) :
    AsidAt (w1.setCell ⟨B, 0, none⟩ (.slice (some ⟨g', 0, none⟩) (L.length + 1) cap')) b po tk N ∧ (∀ k, k < B + 3 → k ≠ B → (w1.setCell ⟨B, 0, none⟩ (.slice (some ⟨g', 0, none⟩) (L.length + 1) cap')).heap[k]? = W.heap[k]?) ∧
      (w1.setCell ⟨B, 0, none⟩ (.slice (some ⟨g', 0, none⟩) (L.length + 1) cap')).ownsRow (B + 3) 3 1 (.slice (some ⟨g', 0, none⟩) (L.length + 1) cap') (L.length + 1) (L.map (Value.int .i64) ++ [.int .i64 q]) ∧ Boxed (w1.setCell ⟨B, 0, none⟩ (.slice (some ⟨g', 0, none⟩) (L.length + 1) cap')) B 42 (.slice (some ⟨g', 0, none⟩) (L.length + 1) cap') ∧
      KeepsOthers W (w1.setCell ⟨B, 0, none⟩ (.slice (some ⟨g', 0, none⟩) (L.length + 1) cap')) ∧ Below B W (w1.setCell ⟨B, 0, none⟩ (.slice (some ⟨g', 0, none⟩) (L.length + 1) cap')) := by
  have hblk : ∀ k, k < B + 3 → k ≠ B → (w1.setCell ⟨B, 0, none⟩ (.slice (some ⟨g', 0, none⟩) (L.length + 1) cap')).heap[k]? = W.heap[k]? := fun k h1 h2 => (Go.heap_setCell_other _ _ _ _ (by simp; omega)).trans ((hgrow.block k (by simp; omega) (row_ne hrow h1)).trans (Below.heap_alloc _ _ _ (by omega)))
  exact ⟨hA.of_block hk2.size (hblk b (by omega) (by omega)), hblk, hown.kept (grownBy_setCell' w1 B _) (.inr (hv1.not_row (by decide) hown).symm), hv2, hk2, hb2⟩
set_option maxRecDepth 100000 in
set_option maxHeartbeats 2000000 in
theorem drop_in (w : World) (b pl : Nat) (po : Nat → Int) (tk : Int) (N : Nums) (pool : Int) (hA : AsidAt w b po tk N) (hpl : pl < 8) (hp : placeF po pool = ((pl : Int), true)) :
    CallsIn Fence.wide 3 Try.prog 9 #[.pointer (some ⟨b, 0, none⟩), .int .i64 pool] w fun e W' => ∃ v, e = .returned (.tuple #[v, .int .i64 0]) ∧ W'.ownsRow w.heap.size 3 1 v (dfold pl N (fst4 4)).2.length ((dfold pl N (fst4 4)).2.map (Value.int .i64)) ∧ AsidAt W' b (fun i => if i = pl then 0 else po i) tk (dfold pl N (fst4 4)).1 ∧ BlkOnly b w W' := by
  obtain ⟨i0, hi, hz0, hz1, hz2⟩ := info_parts infoInt
  have HI0 := Lib.hid hi
  have HA := Lib.hid hA
  have HP := Lib.hid hp
  have hb := hA.lt
  clear hA hp hi
  refine callsIn_of_wp_marks Try.func9 rfl trivial ?_ rfl
  simp only [Try.ntmps9, List.size_toArray, List.length_cons, List.length_nil, Nat.reduceAdd, Nat.reduceSub, Array.replicate_succ, Array.replicate_zero, List.push_toArray, List.append_toArray, List.nil_append, List.cons_append]
  gi_wp2_with (refine ⟨trivial, ?_⟩; first
    | (gi_at_call 22; refine (callsIn_wide.2 (place_any _ b po tk N pool (HA.out.call (by repeat (first | exact Below.refl _ _ | refine bal ?_ _))))).mono ?_; rw [HP.out]; rintro e w1 ⟨rfl, rfl⟩)
    | (gi_at_call 24; refine (ofit_in _ _ _ _).mono ?_; rintro e w3 ⟨rfl, rfl⟩))
  obtain ⟨wL, hwL⟩ : ∃ x, x = (((w.alloc (.cells #[.slice none 0 0] 42)).alloc (.cells #[.pointer (some ⟨b, 0, none⟩)] 24)).alloc (.cells #[.int .i64 pl] 3)) := ⟨_, rfl⟩
  rw [← hwL]
  have hsz : wL.heap.size = w.heap.size + 3 := by rw [hwL]; simp
  have hBw : Below w.heap.size w wL := hwL ▸ bal (bal (bal (Below.refl _ _) _) _) _
  have b0 : Boxed wL w.heap.size 42 (.slice none 0 0) := by rw [hwL]; exact ((Boxed.new w _ _).alloc _).alloc _
  have e3 : wL.cell? ⟨w.heap.size + 1, 0, none⟩ = some (.pointer (some ⟨b, 0, none⟩)) := by rw [hwL]; go_simp
  have e4 : wL.cell? ⟨w.heap.size + 2, 0, none⟩ = some (.int .i64 pl) := by rw [hwL]; go_simp
  have hA1 := HA.out.call hBw
  clear hwL
  refine wpIn_rangeFunc_ownF (α := Fin 4) rfl (by decide) (gf := 27) (lb := #[.pointer (some ⟨w.heap.size + 1 + 1, 0, none⟩), .pointer (some ⟨w.heap.size + 1, 0, none⟩)]) rfl trivial (enters_of Try.func27 (by kernel_rfl) rfl)
    (encs := encO b pl) (Kp := KpO (w.heap.size + 2) (w.heap.size + 1)) (S := fun xs => xs = fst4 4) (Sp := fun pre => ∃ k, ∃ h : k < 4, pre = fst4 k ++ [⟨k, h⟩]) (N := 4) (w0 := wL) (of1_seq 1 b pl (w.heap.size + 2) (w.heap.size + 1) wL hpl e4 e3 (by omega) (by omega))
    (fun h k => h.trans k) ?hKb (Below.refl _ _) (fun _ => rfl) (fun pre W => ((∃ v, Boxed W w.heap.size 42 v ∧ W.ownsRow (w.heap.size + 3) 3 1 v (dfold pl N pre).2.length ((dfold pl N pre).2.map (Value.int .i64)) ∧ (dfold pl N pre).2.length ≤ pre.length) ∧ AsidAt W b po tk (dfold pl N pre).1) ∧ BlkOnly b w W ∧ w.heap.size + 3 ≤ W.heap.size) (fun _ _ _ => False)
    (OwnFrom.and (OwnFrom.and (Own.from (holdsRow_own (w.heap.size + 3) w.heap.size 42 3 1 (fun pre : List (Fin 4) => (dfold pl N pre).2.length) (fun pre : List (Fin 4) => (dfold pl N pre).2.map (Value.int .i64)) (fun pre _ => (dfold pl N pre).2.length ≤ pre.length)) _)
      (fun s A C row h hg hr => h.of_block hg.size (hg.block b h.lt (fun e => by have := (hr b e.symm).1; omega))))
      (fun s A C row h hg hr => ⟨⟨hg.os.trans h.1.os, hg.tape.trans h.1.tape, hg.output.trans h.1.output, Nat.le_trans h.1.size hg.size, fun k hk hn => (hg.block k (Nat.lt_of_lt_of_le hk h.1.size) (fun e => by have := (hr k e.symm).1; omega)).trans (h.1.block k hk hn)⟩, Nat.le_trans h.2 hg.size⟩))
    (fun _ _ _ _ _ h _ _ => h) ⟨⟨⟨_, b0, World.ownsRow_nil _ _ _ _, Nat.le_refl _⟩, hA1⟩, BlkOnly.of_below hBw, by omega⟩
    (fun x => { tmps := #[.pointer (some ⟨b, 0, none⟩), .int .i64 pool, undef, undef, .slice none 0 0, .int .i64 0, .int .i64 pl, .bool true, .pointer (some ⟨w.heap.size, 0, none⟩), .int .i64 ((pl : Int) * 4 + x.1), .pointer (some ⟨b, 9 + (pl * 4 + x.1) * 3, none⟩),
      .pointer (some ⟨b, 0, none⟩), .bool false, .tuple #[.int .i64 pl, .bool true], .pointer (some ⟨b, 0, none⟩), .int .i64 pool, .tuple #[.int .i64 pl, .bool true], .int .i64 pl, .bool true, .bool true, .bool false, .pointer (some ⟨b, 0, none⟩), .int .i64 pl,
      .func (.func 27) #[] #[.pointer (some ⟨w.heap.size + 1 + 1, 0, none⟩), .pointer (some ⟨w.heap.size + 1, 0, none⟩)], .int .i64 ((pl : Int) * 4 + x.1), .pointer (some ⟨b, 9 + (pl * 4 + x.1) * 3, none⟩), undef, undef, undef, undef, undef, undef, undef, undef, undef, undef, undef, undef, undef, undef, undef, undef, undef], defers := [] }) ?hassign ?hbody ?hdone ?hstop
  case hKb =>
    intro W l o o' hl ho _ _
    exact ⟨heap_putObj_ne (by omega), heap_putObj_ne (by omega), by simp⟩
  case hassign =>
    intro l x W K hK
    gi_wp2
    exact hK
  case hbody =>
    rintro l pre x W ⟨⟨⟨v, hv, hrow, hll⟩, hAW⟩, hBO, hZ⟩ hlen
    have hx4 := x.2
    have hn32 : pl * 4 + x.1 < 32 := by omega
    have hds := dfold_snoc pl N pre x
    obtain ⟨⟨M, L⟩, hML⟩ : ∃ s, dfold pl N pre = s := ⟨_, rfl⟩
    simp only [hML] at hrow hAW hds hll
    obtain ⟨c0, c1, c2⟩ := hAW.num (pl * 4 + x.1) hn32
    have hc := hv.cell
    have HAW := Lib.hid hAW
    have HROW := Lib.hid hrow
    have HV := Lib.hid hv
    clear hML hAW
    by_cases hr : (M (pl * 4 + x.1)).1 = 0
    · have hd : dstep pl (M, L) x = (M, L) := by unfold dstep; rw [if_pos hr]
      rw [hd] at hds
      have HDS := Lib.hid hds
      rw [hr] at c0
      clear hds hd hr hrow hv
      gi_wp2
      refine ⟨KeepsOthers.refl _, ⟨rfl, rfl, Nat.le_refl _⟩, ?_⟩
      simp only [HDS.out]
      exact ⟨⟨⟨_, HV.out, HROW.out, by simp; omega⟩, HAW.out⟩, hBO, hZ⟩
    · have hd : dstep pl (M, L) x = (freeN M (pl * 4 + x.1), L ++ [((pl : Int) * 4 + x.1)]) := by unfold dstep; rw [if_neg hr]
      rw [hd] at hds
      have HDS := Lib.hid hds
      obtain ⟨r, hr2⟩ : ∃ r, (M (pl * 4 + x.1)).1 = r := ⟨_, rfl⟩
      rw [hr2] at c0 hr
      clear hds hd c1 c2 hr2
      have hL4 : L.length < 4 := by omega
      obtain ⟨q, hq⟩ : ∃ q : Int, (pl : Int) * 4 + x.1 = q := ⟨_, rfl⟩
      rw [hq] at HDS
      (try dsimp only)
      rw [hq]
      have HQ := Lib.hid hq
      clear hq
      gi_wp2_with (first
        | (gi_at_builtin; refine wpListIn_append_own _ rfl _ _ 42 rfl (w.heap.size + 3) 3 i0 (.int .i64 0) 1 8 Try.underlying42 HI0.out hz0 hz1 hz2 rfl (by decide) _ _ _ rfl (HROW.out.alloc _) ⟨W.heap.size, 0, none⟩ 1 1 [.int .i64 q] rfl rfl (cell_one_new _ _ _) (by simp [Value.oneCell']) (by unfold maxLen; omega) (by omega) (by simp; omega) ?_; intro v' w1 hown' hgrow _; obtain ⟨g', cap', rfl⟩ := ownsRow_succ hown'; obtain ⟨hv1, hv2, hr2, hk2, hb2⟩ := HV.out.appended (by decide) (ownsRow_le HROW.out (Nat.le_add_right _ 3)) hBO.size (Nat.le_refl _) (ownsRow_le hown' (Nat.le_add_right _ 3)) hgrow; have hc1 := hv1.cell; have hf1 := hv1.frozen; have HGR := Lib.hid hgrow; have HOW := Lib.hid hown'; have HV1 := Lib.hid hv1; have HV2 := Lib.hid hv2; have HK2 := Lib.hid hk2; have HB2 := Lib.hid hb2; clear hv1 hv2 hr2 hk2 hb2 hgrow hown')
        | (refine ⟨trivial, ?_⟩; gi_at_call 25; have hw2 := after_app W w1 w.heap.size b q g' cap' v L HROW.out (by omega) HGR.out HOW.out HV1.out HV2.out HK2.out HB2.out HAW.out hb hZ; clear hc1 hf1; generalize (w1.setCell ⟨w.heap.size, 0, none⟩ (.slice (some ⟨g', 0, none⟩) (L.length + 1) cap')) = W2 at hw2 ⊢; obtain ⟨hA2, hblk, hr3, hv3, hk3, hb3⟩ := hw2; refine (CallsIn.inRound l (callsIn_wide.2 (free_any _ b (pl * 4 + x.1) po tk M hA2 hn32))).mono ?_; rintro e w3 ⟨⟨v3, rfl⟩, ha3, ho3⟩; have HA3 := Lib.hid ha3; have HO3 := Lib.hid ho3; clear ha3 ho3; have HA2 := Lib.hid hA2; have HBK := Lib.hid hblk; have HR3 := Lib.hid hr3; have HV3 := Lib.hid hv3; clear hA2 hblk hr3 hv3))
      have hs3 := hk3.size
      have hs4 := HO3.out.size
      refine ⟨hk3.trans (KeepsOthers.of_blk HO3.out HA2.out.taken), ⟨(HO3.out.block _ (by omega) (by omega)).trans (HBK.out _ (by omega) (by omega)), (HO3.out.block _ (by omega) (by omega)).trans (HBK.out _ (by omega) (by omega)), by omega⟩, ?_⟩
      simp only [HDS.out]
      refine ⟨⟨⟨_, HV3.out.kept HO3.out.grown (fun e => by cases e; omega), ?_, by simp; omega⟩, HA3.out⟩, ⟨HO3.out.os.trans (hb3.os.trans hBO.os), HO3.out.tape.trans (hb3.tape.trans hBO.tape), HO3.out.output.trans (hb3.output.trans hBO.output), by omega, fun k hk hn => (HO3.out.block k (by omega) hn).trans ((HBK.out k (by omega) (by omega)).trans (hBO.block k hk hn))⟩, by omega⟩
      have := row_other HR3.out HO3.out (by omega)
      simpa using this
  case hdone =>
    rintro D xs W hD rfl ⟨⟨⟨v, hv, hrow, hll⟩, hAW⟩, hBO, hZ⟩ hK
    have hc := hv.cell
    have cp := hAW.pool pl hpl
    have hf := hAW.free
    have hpl' : (pl : Int) < 8 := by omega
    have HAW := Lib.hid hAW
    have HROW := Lib.hid hrow
    clear hAW hrow hv
    gi_wp2
    have hA2 := asid_pool HAW.out hpl 0
    have hBO2 := hBO.set pl (.int .i64 0)
    have hR2 := row_other HROW.out ((BlkOnly.refl b W).set pl (.int .i64 0)) (by omega)
    have hKU : (W.setCell ⟨b, pl, none⟩ (.int .i64 0)).heap[D]? = some (.deferred (some [])) := (Go.heap_setCell_other _ _ _ _ (by simp; omega)).trans hK
    generalize (W.setCell ⟨b, pl, none⟩ (.int .i64 0)) = U at hA2 hBO2 hR2 hKU ⊢
    refine ⟨by simp, .inl ⟨_, _, rfl, run_takeDeferred hKU, ?_⟩⟩
    exact ⟨.tuple #[v, .int .i64 0], by simp [results, Try.results9, go_sem], v, rfl, ownsRow_putObj (ownsRow_le hR2 (Nat.le_add_right _ 3)) _ hKU rfl, hA2.of_block (by simp) (heap_putObj_ne (by omega)), hBO2.put (by omega)⟩
  case hstop =>
    rintro D c pre W hD _ h _
    exact h.elim
end Go.Proofs.Ytfladcnkphcicaa
