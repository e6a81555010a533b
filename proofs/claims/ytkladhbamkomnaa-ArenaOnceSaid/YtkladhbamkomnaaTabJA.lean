/- The package's own iterator over its table: it passes on what the table's yields. -/
import Derived.Test.YtkladhbamkomnaaTabIA
namespace Go.Proofs.Ytkladhbamkomnaa
set_option linter.unusedVariables false
set_option linter.unusedSimpArgs false
open Go.ChangeShapes Go.WideShapes Go.ChangeAt Go.RowKit Go.Shelf
attribute [local go_sem] Oper.semAt_some

namespace TabA
theorem own_in (n : Nat) (p : Option Addr) (w : World) :
    CallsIn Fence.wide n Try.prog 34 #[.pointer p] w fun e w' => e = .returned (.func (.func 44) #[] #[.pointer (some ⟨w.heap.size, 0, none⟩)]) ∧ w' = w.alloc (.cells #[.pointer p] 24) := by
  refine callsIn_of_wp Try.func34 rfl trivial ?_ rfl
  simp only [Try.ntmps34, List.size_toArray, List.length_cons, List.length_nil, Nat.reduceAdd, Nat.reduceSub, Array.replicate_succ, Array.replicate_zero, List.push_toArray, List.append_toArray, List.nil_append, List.cons_append]
  gi_wp2
  go_ret
  exact ⟨rfl, rfl⟩
set_option maxRecDepth 100000 in
set_option maxHeartbeats 2000000 in
theorem own_px (q eb b N B : Nat) (v : Value) (keys : Nat → Int) (I : Nat → World → Prop) (hv : (v = .slice none 0 0 ∧ N = 0) ∨ ∃ g c, v = .slice (some ⟨g, 0, none⟩) N c) (hN : N ≤ 1000000) (hb : ∀ g, v.ownBlock = some g → g ≠ b)
    (hI : ∀ k W, I k W → W.cell? ⟨eb, 0, none⟩ = some (.pointer (some ⟨b, 0, none⟩)) ∧ W.cell? ⟨b, 1, none⟩ = some v ∧ ∀ g, v.ownBlock = some g → ∀ k, k < N → W.cell? ⟨g, k * 10, none⟩ = some (.int .i64 (keys k))) :
    SeqPx Fence.wide (q + 2) Try.prog 44 #[.pointer (some ⟨eb, 0, none⟩)] (fun k => #[.pointer (v.ownBlock.map fun g => ⟨g, k * 10 + 1, none⟩)]) I N B := by
  intro l J Jx W hBW hAb hAx hJI hY h0
  have hK := hI _ _ (hJI _ _ h0)
  have x0 : W.cell? ⟨eb, 0, none⟩ = some (.pointer (some ⟨b, 0, none⟩)) := hK.1
  have e1 : eb < W.heap.size := World.block_lt_of_cell? W _ x0
  have HY := Lib.hid hY
  have HAB := Lib.hid hAb
  have HAX := Lib.hid hAx
  have HIJ := Lib.hid (fun k W h => hI k W (hJI k W h))
  have H0 := Lib.hid h0
  clear hY hAb hAx hJI hI h0 hK
  refine callsIn_of_wp_marks Try.func44 rfl trivial ?_ rfl
  simp only [Try.ntmps44, List.size_toArray, List.length_cons, List.length_nil, Nat.reduceAdd, Nat.reduceSub, Array.replicate_succ, Array.replicate_zero, List.push_toArray, List.append_toArray, List.nil_append, List.cons_append]
  gi_wp2_with (refine ⟨trivial, ?_⟩; gi_at_call 45; refine (each_in _ b 1 _).mono ?_; rintro e w' ⟨rfl, rfl⟩)
  obtain ⟨W2, hW2⟩ : ∃ x, x = (W.alloc (.cells #[.func (.yield l) #[] #[]] 82)).alloc (.cells #[.pointer (some ⟨b, 1, none⟩)] 86) := ⟨_, rfl⟩
  rw [← hW2]
  have y2 : W2.cell? ⟨W.heap.size, 0, none⟩ = some (.func (.yield l) #[] #[]) := by rw [hW2]; go_simp
  have p2 : W2.cell? ⟨W.heap.size + 1, 0, none⟩ = some (.pointer (some ⟨b, 1, none⟩)) := by rw [hW2]; go_simp
  have hsz : W2.heap.size = W.heap.size + 2 := by rw [hW2]; simp
  have J2 : J 0 W2 := hW2 ▸ HAB.out.alloc _ (HAB.out.alloc _ H0.out)
  clear hW2
  refine wpIn_range_px rfl (by simp) (gf := 52) (lb := #[.pointer (some ⟨W.heap.size + 1, 0, none⟩)]) rfl trivial (enters_of Try.func52 (by kernel_rfl) rfl)
    (encs := encT v keys) (N := N) (fun k U => J k U ∧ U.heap[W.heap.size]? = W2.heap[W.heap.size]? ∧ U.heap[W.heap.size + 1]? = W2.heap[W.heap.size + 1]? ∧ W2.heap.size ≤ U.heap.size)
    (fun c k U => c = .ret ∧ Jx k U)
    (eachT_px q (W.heap.size + 1) b 1 N _ v keys _ hv hN (fun k U h => ⟨(cell_of_block h.2.2.1).trans p2, (HIJ.out k U h.1).2.1, (HIJ.out k U h.1).2.2⟩)) (fun _ => rfl) ?hI ?hIx ⟨J2, rfl, rfl, Nat.le_refl _⟩
    (fun x => { tmps := #[.func (.yield l) #[] #[], .pointer (some ⟨eb, 0, none⟩), .pointer (some ⟨W.heap.size, 0, none⟩), undef, .pointer (v.ownBlock.map fun g => ⟨g, x * 10 + 1, none⟩), .pointer (some ⟨b, 0, none⟩), .bool false, .pointer (some ⟨b, 0, none⟩), .pointer (some ⟨b, 0, none⟩), .pointer (some ⟨b, 1, none⟩), .func (.func 52) #[] #[.pointer (some ⟨W.heap.size + 1, 0, none⟩)], .int .i64 (keys x), .pointer (v.ownBlock.map fun g => ⟨g, x * 10 + 1, none⟩), undef, undef, undef, undef], defers := [] }) ?hassign ?hbody ?hdone ?hstop
  case hI =>
    intro s A C row h hgr hr
    have hlA : W2.heap.size ≤ A.heap.size := h.2.2.2
    have e : ∀ k, k < W2.heap.size → C.heap[k]? = A.heap[k]? := fun k hk => hgr.block k (by omega) (fun e => by have := (hr k e.symm).1; omega)
    exact ⟨HAB.out s A C row h.1 hgr (fun r e => ⟨by have := (hr r e).1; omega, (hr r e).2⟩), (e _ (by omega)).trans h.2.1, (e _ (by omega)).trans h.2.2.1, Nat.le_trans hlA hgr.size⟩
  case hIx =>
    intro c s A C row h hgr hr
    exact ⟨h.1, HAX.out s A C row h.2 hgr (fun r e => ⟨by have := (hr r e).1; omega, (hr r e).2⟩)⟩
  case hassign =>
    intro l x W K hK
    unfold encT
    gi_wp2
    exact hK
  case hbody =>
    rintro l' k U hkN ⟨hJ, hyb, hpb, hUs⟩
    have yU : U.cell? ⟨W.heap.size, 0, none⟩ = some (.func (.yield l) #[] #[]) := (cell_of_block hyb).trans y2
    obtain ⟨fn, tmps, assign, body, hy, hR⟩ := HY.out k U hkN hJ
    (try dsimp only at hy)
    have HR := Lib.hid (hR.mono (fun e W' h => two_ways (A := fun W' => J (k + 1) W' ∧ HiKept W.heap.size U W') (B := fun W' => Jx k W' ∧ HiKept W.heap.size U W') h))
    clear hR
    gi_wp2
    refine ⟨fun h => (by cases h), ?_⟩
    refine (round_any HR.out).mono ?_
    rintro e W' ⟨t, rfl, ht⟩
    cases t
    · obtain ⟨hJx, hH⟩ := ht.2 rfl
      gi_wp2
      exact ⟨hH.mono (by omega), rfl, hJx⟩
    · obtain ⟨hJ', hH⟩ := ht.1 rfl
      gi_wp2
      exact ⟨hH.mono (by omega), hJ', (hH.2 _ (by omega) (by omega)).trans hyb, (hH.2 _ (by omega) (by omega)).trans hpb, Nat.le_trans hUs hH.1⟩
  case hdone =>
    rintro D U hD ⟨hJ, -, -, -⟩ hK
    gi_wp2
    refine ⟨by simp, .inl ⟨_, _, rfl, run_takeDeferred hK, ?_⟩⟩
    exact ⟨.tuple #[], by simp [results, Try.results44, go_sem], ⟨_, rfl⟩, .inl (HAB.out.putObj _ hJ (by omega) hK rfl)⟩
  case hstop =>
    rintro D c k U hD hkN ⟨rfl, hJx⟩ hK
    gi_wp2
    refine ⟨by simp, .inl ⟨_, _, rfl, run_takeDeferred hK, ?_⟩⟩
    exact ⟨.tuple #[], by simp [results, Try.results44, go_sem], ⟨_, rfl⟩, .inr ⟨k, hkN, HAX.out.putObj _ hJx (by omega) hK rfl⟩⟩
end TabA
end Go.Proofs.Ytkladhbamkomnaa
