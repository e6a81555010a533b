/- The package's own iterator over its table: it passes on what the table's yields. -/
import Derived.Test.YtiagkoiikmmgdaaTh4
import Derived.Deep.RegionHeld3
import Derived.Stop.RegionWithIn
namespace Go.Proofs.Ytiagkoiikmmgdaa
set_option linter.unusedVariables false
set_option linter.unusedSimpArgs false
open Go.ChangeShapes Go.WideShapes Go.ChangeAt Go.RowKit Go.Shelf
open TabT
attribute [local go_sem] Oper.semAt_some
attribute [-go_sem] loadVar

theorem own_in (n : Nat) (p : Option Addr) (w : World) :
    CallsIn Fence.wide n Try.prog 30 #[.pointer p] w fun e w' => e = .returned (.func (.func 34) #[] #[.pointer (some ⟨w.heap.size, 0, none⟩)]) ∧ w' = w.alloc (.cells #[.pointer p] 24) := by
  refine callsIn_of_wp Try.func30 rfl trivial ?_ rfl
  simp only [Try.ntmps30, List.size_toArray, List.length_cons, List.length_nil, Nat.reduceAdd, Nat.reduceSub, Array.replicate_succ, Array.replicate_zero, List.push_toArray, List.append_toArray, List.nil_append, List.cons_append]
  gi_wp2
  go_ret
  exact ⟨rfl, rfl⟩
theorem run_load_p {w : World} {a : Addr} {v : Value} (h : w.cell? a = some v) : (loadVar 24 a).run Try.prog w = .ok v w := by
  simp [go_sem, loadVar, h]
theorem run_load_y {w : World} {a : Addr} {v : Value} (h : w.cell? a = some v) : (loadVar 44 a).run Try.prog w = .ok v w := by
  simp [go_sem, loadVar, h]
set_option maxRecDepth 100000 in
set_option maxHeartbeats 2000000 in
theorem own_px (E : TypeId) (hE1 : (44 == E) = false) (hE2 : (68 == E) = false) (q eb b N B : Nat) (v : Value) (keys : Nat → Int) (vals : Nat → Th) (I : Nat → World → Prop) (hv : (v = .slice none 0 0 ∧ N = 0) ∨ ∃ g c, v = .slice (some ⟨g, 0, none⟩) N c) (hN : N ≤ 1000000) (hb : ∀ g, v.ownBlock = some g → g ≠ b)
    (hI : ∀ k W, I k W → W.cell? ⟨eb, 0, none⟩ = some (.pointer (some ⟨b, 0, none⟩)) ∧ W.cell? ⟨b, 0, none⟩ = some v ∧ ∀ g, v.ownBlock = some g → ∀ k, k < N → W.cell? ⟨g, k * 25, none⟩ = some (.int .i64 (keys k)) ∧ W.rangeAt g (k * 25 + 1) (vals k).cells) :
    SeqPx E Fence.wide (q + 2) Try.prog 34 #[.pointer (some ⟨eb, 0, none⟩)] (fun k => #[.agg (vals k).cells.toArray]) I N B := by
  intro l J Jx W hBW hAb hAx hJI hY h0
  have hK := hI _ _ (hJI _ _ h0)
  have x0 : W.cell? ⟨eb, 0, none⟩ = some (.pointer (some ⟨b, 0, none⟩)) := hK.1
  have e1 : eb < W.heap.size := World.block_lt_of_cell? W _ x0
  have HY := Lib.hid hY
  have HAB := Lib.hid hAb
  have HAX := Lib.hid hAx
  have HIJ := Lib.hid (fun k W h => hI k W (hJI k W h))
  have H0 := Lib.hid h0
  clear hY hAb hAx hJI hI h0 hK
  have q1 : ∀ o, (loadVar 24 ⟨eb, 0, none⟩).run Try.prog (W.alloc o) = .ok (.pointer (some ⟨b, 0, none⟩)) (W.alloc o) := fun o => run_load_p ((World.cell?_alloc_lt _ _ _ (by exact e1)).trans x0)
  refine callsIn_of_wp_marks Try.func34 rfl trivial ?_ rfl
  simp only [Try.ntmps34, List.size_toArray, List.length_cons, List.length_nil, Nat.reduceAdd, Nat.reduceSub, Array.replicate_succ, Array.replicate_zero, List.push_toArray, List.append_toArray, List.nil_append, List.cons_append]
  gi_wp2_with (refine ⟨trivial, ?_⟩; gi_at_call 35; refine (each_in _ b 0 _).mono ?_; rintro e w' ⟨rfl, rfl⟩)
  obtain ⟨W2, hW2⟩ : ∃ x, x = (W.alloc (.cells #[.func (.yield l) #[] #[]] 44)).alloc (.cells #[.pointer (some ⟨b, 0, none⟩)] 68) := ⟨_, rfl⟩
  rw [← hW2]
  have y2 : W2.heap[W.heap.size]? = some (.cells #[.func (.yield l) #[] #[]] 44 (0, 0)) := by rw [hW2]; exact (Below.heap_alloc _ _ _ (by simp)).trans (heap_alloc_new W _)
  have p2 : W2.heap[W.heap.size + 1]? = some (.cells #[.pointer (some ⟨b, 0, none⟩)] 68 (0, 0)) := by
    rw [hW2]
    have := heap_alloc_new (W.alloc (.cells #[.func (.yield l) #[] #[]] 44)) (.cells #[.pointer (some ⟨b, 0, none⟩)] 68)
    rwa [show (W.alloc (.cells #[.func (.yield l) #[] #[]] 44)).heap.size = W.heap.size + 1 by simp] at this
  have hsz : W2.heap.size = W.heap.size + 2 := by rw [hW2]; simp
  have J2 : J 0 W2 := hW2 ▸ HAB.out.alloc _ (HAB.out.alloc _ H0.out)
  clear hW2
  refine wpIn_range_px rfl (by simp) (gf := 41) (lb := #[.pointer (some ⟨W.heap.size + 1, 0, none⟩)]) rfl trivial (enters_of Try.func41 (by kernel_rfl) rfl)
    (encs := encT v keys) (N := N) E (fun k U => J k U ∧ U.heap[W.heap.size]? = some (.cells #[.func (.yield l) #[] #[]] 44 (0, 0)) ∧ U.heap[W.heap.size + 1]? = some (.cells #[.pointer (some ⟨b, 0, none⟩)] 68 (0, 0)) ∧ W2.heap.size ≤ U.heap.size)
    (fun c k U => c = .ret ∧ Jx k U)
    (eachT_px E q (W.heap.size + 1) b 0 N _ v keys _ hv hN (fun k U h => ⟨(cell_box h.2.2.1).1, (HIJ.out k U h.1).2.1, fun g hg j hj => ((HIJ.out k U h.1).2.2 g hg j hj).1⟩)) (fun _ => rfl) ?hI ?hIx ⟨J2, y2, p2, Nat.le_refl _⟩
    (fun x => { tmps := #[.func (.yield l) #[] #[], .pointer (some ⟨eb, 0, none⟩), .pointer (some ⟨W.heap.size, 0, none⟩), undef, .pointer (v.ownBlock.map fun g => ⟨g, x * 25 + 1, none⟩), .pointer (some ⟨b, 0, none⟩), .bool false, .pointer (some ⟨b, 0, none⟩), .pointer (some ⟨b, 0, none⟩), .pointer (some ⟨b, 0, none⟩), .func (.func 41) #[] #[.pointer (some ⟨W.heap.size + 1, 0, none⟩)], .int .i64 (keys x), .pointer (v.ownBlock.map fun g => ⟨g, x * 25 + 1, none⟩), undef, undef, undef, undef, undef, undef], defers := [] }) ?hassign ?hbody ?hdone ?hstop
  case hI =>
    intro s A C row h hgr hr
    have hlA : W2.heap.size ≤ A.heap.size := h.2.2.2
    have e : ∀ k, k < W2.heap.size → C.heap[k]? = A.heap[k]? := fun k hk => hgr.block k (by omega) (fun e => by have := (hr k e.symm).1; omega)
    exact ⟨HAB.out s A C row h.1 hgr (fun r e => ⟨by have := (hr r e).1; omega, (hr r e).2⟩), (e _ (by omega)).trans h.2.1, (e _ (by omega)).trans h.2.2.1, Nat.le_trans hlA hgr.size⟩
  case hIx =>
    intro c s A C row h hgr hr
    exact ⟨h.1, HAX.out s A C row h.2 hgr (fun r e => ⟨by have := (hr r e).1; omega, (hr r e).2⟩)⟩
  case hassign =>
    intro l x W K hK
    unfold encT
    gi_wp2
    exact hK
  case hbody =>
    rintro l' k U hkN ⟨hJ, hyb, hpb, hUs⟩
    rcases hv with ⟨_, h0⟩ | ⟨g, c, rfl⟩
    · omega
    have yU : U.cell? ⟨W.heap.size, 0, none⟩ = some (.func (.yield l) #[] #[]) := (cell_box hyb).1
    have hJd : J k U.drew := HAB.out _ U U.drew none hJ ⟨rfl, rfl, rfl, Nat.le_refl _, fun _ _ _ => rfl⟩ (fun r e => by cases e)
    obtain ⟨fn, tmps, assign, body, hy, hR⟩ := HY.out k U.drew hkN hJd
    (try dsimp only at hy)
    have hrow := ((HIJ.out k U hJ).2.2 g rfl k hkN).2
    have q2 : (loadVar 44 ⟨W.heap.size, 0, none⟩).run Try.prog U.drew = .ok (.func (.yield l) #[] #[]) U.drew := run_load_y (by simpa using yU)
    have q3 : (loadVar 35 ⟨g, k * 25 + 1, none⟩).run Try.prog U.drew = .ok (.agg (vals k).cells.toArray) U.drew := run_loadVar_mid _ _ _ _ _ _ (by simpa using hrow) Try.underlying35 rfl (by kernel_rfl)
    have HR := Lib.hid (hR.mono (fun e W' h => two_ways (A := fun W' => J (k + 1) W' ∧ HiKept E W.heap.size U W') (B := fun W' => Jx k W' ∧ HiKept E W.heap.size U W') h))
    have HYB := Lib.hid hyb
    have HPB := Lib.hid hpb
    clear hR hrow hJ hJd hyb hpb q1
    simp only [Value.ownBlock, Option.map]
    gi_wp2
    refine wpIn_mono (Q := NoPanic _) ?_ NoPanic.imp
    gi_region_with (first | (refine ⟨fun h => (by cases h), ?_⟩; refine (round_any HR.out).mono ?_; rintro e W' ⟨t, rfl, ht⟩))
    all_goals
      refine NoPanic.normal ?_
      cases t
      · obtain ⟨hJx, hH⟩ := ht.2 rfl
        gi_wp2
        exact ⟨hH.mono (by omega), rfl, hJx⟩
      · obtain ⟨hJ', hH⟩ := ht.1 rfl
        gi_wp2
        exact ⟨hH.mono (by omega), hJ', hH.2 _ _ (by omega) HYB.out hE1, hH.2 _ _ (by omega) HPB.out hE2, (by have := hH.1; omega)⟩
  case hdone =>
    rintro D U hD ⟨hJ, -, -, -⟩ hK
    gi_wp2
    refine ⟨by simp, .inl ⟨_, _, rfl, run_takeDeferred hK, ?_⟩⟩
    exact ⟨.tuple #[], by simp [results, Try.results34, go_sem], ⟨_, rfl⟩, .inl (HAB.out.putObj _ hJ (by omega) hK rfl)⟩
  case hstop =>
    rintro D c k U hD hkN ⟨rfl, hJx⟩ hK
    gi_wp2
    refine ⟨by simp, .inl ⟨_, _, rfl, run_takeDeferred hK, ?_⟩⟩
    exact ⟨.tuple #[], by simp [results, Try.results34, go_sem], ⟨_, rfl⟩, .inr ⟨k, hkN, HAX.out.putObj _ hJx (by omega) hK rfl⟩⟩
end Go.Proofs.Ytiagkoiikmmgdaa
