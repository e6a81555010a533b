/- chapter 17's own answer: Root. -/
import Derived.Test.YtebgmphbkjpfcaaTrSh
import Derived.Maps.AppendAt
namespace Go.Proofs.Ytebgmphbkjpfcaa
set_option linter.unusedVariables false
set_option linter.unusedSimpArgs false
open Go.ChangeShapes Go.WideShapes Go.ChangeAt Go.RowKit Go.Shelf

set_option maxRecDepth 100000 in
theorem copy_nil (W : World) : (Builtin.append_ #[27, 27] 27 #[.slice none 0 0, .slice none 0 0]).run Try.prog W = .ok (.slice none 0 0) W := by
  simp [go_sem]
theorem copy_run {w W : World} {rb : Nat} {v : Value} {l : List Nod} (h : RefT W rb v l) (hz : w.heap.size ≤ W.heap.size) :
    ∃ u w2, (Builtin.append_ #[27, 27] 27 #[.slice none 0 0, v]).run Try.prog W = .ok u w2 ∧ w2.ownsRow w.heap.size 49 3 u l.length (nodsC l) ∧ W.grownBy w2 none := by
  obtain ⟨i0, hi0, hz0, hz1, hz2⟩ := info_parts infoNd
  have hle := h.le
  rcases h.row.2 with ⟨rfl, h0⟩ | ⟨g, cap, cur, rfl, _⟩
  · obtain rfl : l = [] := List.length_eq_zero_iff.1 h0
    exact ⟨_, _, copy_nil W, World.ownsRow_nil _ _ _ _, ⟨rfl, rfl, rfl, Nat.le_refl _, fun _ _ _ => rfl⟩⟩
  · obtain ⟨u, w2, h1, h2, h3, _⟩ := run_append_own_at (P := Try.prog) (w := W) w.heap.size 27 27 49 i0 (.agg #[.int .i64 0, .int .i64 0, .int .i64 0]) 3 24 Try.underlying27 hi0 hz0 hz1 hz2 rfl (by decide) (.slice none 0 0) 0 [] (World.ownsRow_nil _ _ _ _) ⟨g, 0, none⟩ l.length cap (nodsC l) (nodsC_len l) (row_news h) nods_one (by unfold maxLen; omega) (by omega) hz
    rw [Nat.zero_add, List.nil_append] at h2
    exact ⟨u, w2, h1, h2, h3⟩
theorem one_run {w W : World} {u : Value} {l : List Nod} (s : Nat) (x : Nod) (h : W.ownsRow w.heap.size 49 3 u l.length (nodsC l)) (hs : W.heap[s]? = some (.cells #[.int .i64 x.o, .int .i64 x.i, .int .i64 x.d] 49)) (hl : l.length ≤ 1000) (hz : w.heap.size ≤ W.heap.size) :
    ∃ g c w2, (Builtin.append_ #[27, 27] 27 #[u, .slice (some ⟨s, 0, none⟩) 1 1]).run Try.prog W = .ok (.slice (some ⟨g, 0, none⟩) (l.length + 1) c) w2 ∧ w2.ownsRow w.heap.size 49 3 (.slice (some ⟨g, 0, none⟩) (l.length + 1) c) (l ++ [x]).length (nodsC (l ++ [x])) ∧ W.grownBy w2 u.ownBlock := by
  obtain ⟨i0, hi0, hz0, hz1, hz2⟩ := info_parts infoNd
  obtain ⟨u', w2, h1, h2, h3, _⟩ := run_append_own_at (P := Try.prog) (w := W) w.heap.size 27 27 49 i0 (.agg #[.int .i64 0, .int .i64 0, .int .i64 0]) 3 24 Try.underlying27 hi0 hz0 hz1 hz2 rfl (by decide) u l.length (nodsC l) h ⟨s, 0, none⟩ 1 1 (nodC x) rfl (by
      intro j v hj
      have e : ((⟨s, 0, none⟩ : Addr).add j) = ⟨s, j, none⟩ := by unfold Addr.add; split <;> simp_all
      rw [e]
      unfold World.cell?
      simp only [hs]
      simpa using hj) (by simp [Value.oneCell']) (by unfold maxLen; omega) (by omega) hz
  rw [← nodsC_snoc] at h2
  obtain ⟨g, c, rfl, _⟩ := row_form3 h2 (by omega)
  exact ⟨g, c, w2, h1, by rw [List.length_append]; exact h2, h3⟩
theorem insertIdx_end {α : Type} (x : α) : ∀ l : List α, l.insertIdx l.length x = l ++ [x]
  | [] => rfl
  | a :: l => by
    rw [List.length_cons, List.insertIdx_succ_cons, insertIdx_end x l]; rfl
theorem bx_grown {W w3 : World} {s : Nat} {o i : Int} {r : Option Nat} (h : Bx W s o i) (hg : W.grownBy w3 r) (hr : r ≠ some s) : Bx w3 s o i :=
  bx_same h (hg.block _ h.lt (fun e => hr e.symm)) hg.size
attribute [-go_sem] Builtin.append_
set_option maxRecDepth 100000 in
set_option maxHeartbeats 1000000 in
theorem rroot_any (w : World) (rb : Nat) (v : Value) (l : List Nod) (o i : Int) (h : RefT w rb v l) (hlen : l.length < 1000) :
    Calls Try.prog 34 #[.pointer (some ⟨rb, 0, none⟩), slV o i] w fun e w' => e = .returned (.int .i64 (rootA l o i).2) ∧ (∃ u, RefT w' rb u (rootA l o i).1) ∧ OnlyR rb w w' := by
  have hal : Below w.heap.size w (w.alloc (slO o i)) := bal (Below.refl _ _) _
  have HA := Lib.hid hal
  have HR := Lib.hid h
  have HBX := Lib.hid (Bx.fresh w o i)
  unfold rootA
  cases hk : idx l o i with
  | some k =>
    have hat : atI l o i = (k : Int) := by unfold atI; rw [hk]
    have HAT := Lib.hid hat
    simp only [Option.isSome_some, if_true]
    have hk0 : (0 : Int) ≤ k := by omega
    clear h hal hk hat
    go_enter Try.func34, Try.ntmps34
    go_wp2_with (go_at_call 18; with_reducible refine (rat_any _ rb v l o i (HR.out.call HA.out)).mono ?_; rw [HAT.out]; rintro e w1 ⟨rfl, hb1⟩; have HB1 := Lib.hid (HA.out.trans (hb1.mono HA.out.size)); clear hb1)
    go_ret
    exact ⟨rfl, ⟨_, HR.out.call HB1.out⟩, .of_below HB1.out⟩
  | none =>
    have hat : atI l o i = -1 := by unfold atI; rw [hk]
    have HAT := Lib.hid hat
    simp only [Option.isSome_none, Bool.false_eq_true, if_false]
    rw [insertIdx_end]
    have hrl := (Array.getElem?_eq_some_iff.1 h.blk).1
    obtain ⟨a, c, hv⟩ := h.form
    subst hv
    clear h hal hk hat
    go_enter Try.func34, Try.ntmps34
    go_upto_region 3 with (go_at_call 18; with_reducible refine (rat_any _ rb _ l o i (HR.out.call HA.out)).mono ?_; rw [HAT.out]; rintro e w1 ⟨rfl, hb1⟩; have HB1 := Lib.hid (HA.out.trans (hb1.mono HA.out.size)); have HBX1 := Lib.hid (HBX.out.call hb1); clear hb1)
    have HB1D := Lib.hid HB1.out.drew
    have hdep : ∀ x ∈ l ++ [(⟨o, i, 0⟩ : Nod)], -1000 ≤ x.d ∧ x.d ≤ 1000 := by
      intro x hx
      rcases List.mem_append.1 hx with q | q
      · exact HR.out.dep x q
      · simp at q; subst q; simp
    obtain ⟨u, w2, hrun1, hown1, hg1⟩ := copy_run (w := w) (HR.out.call HB1D.out) HB1D.out.size
    have hb2 : Below w.heap.size w w2 := HB1D.out.grown hg1 HB1D.out.size (fun k e => by cases e)
    have hbx2 := bx_grown (HBX1.out.call (Below.refl _ _).drew) hg1 (by simp)
    obtain ⟨g, cc, w3, hrun2, hown2, hg2⟩ := one_run (w := w) w2.heap.size ⟨o, i, 0⟩ (hown1.alloc _) (World.alloc_heap_new w2 _) (by omega) (by simp; exact Nat.le_trans hb2.size (Nat.le_succ _))
    have hb3 : Below w.heap.size w w3 := (bal hb2 _).grown hg2 (by simp; exact Nat.le_trans hb2.size (Nat.le_succ _)) (fun k e => (hown1.lt k e).1)
    have HST := Lib.hid (HR.out.store hb3 hown2 (by simp; omega) hdep)
    have hbA : Below w.heap.size w (w1.alloc (.cells #[.int .i64 o, .int .i64 i, .int .i64 0] 49)).drew := (bal HB1.out _).drew
    obtain ⟨u', w2', hrun1', hown1', hg1'⟩ := copy_run (w := w) (HR.out.call hbA) hbA.size
    have hb2' : Below w.heap.size w w2' := hbA.grown hg1' hbA.size (fun k e => by cases e)
    have hnew' : w2'.heap[w1.heap.size]? = some (.cells #[.int .i64 o, .int .i64 i, .int .i64 0] 49) := (hg1'.block _ (by simp) (by simp)).trans (World.alloc_heap_new w1 _)
    obtain ⟨g', cc', w3', hrun2', hown2', hg2'⟩ := one_run (w := w) w1.heap.size ⟨o, i, 0⟩ hown1' hnew' (by omega) hb2'.size
    have hb3' : Below w.heap.size w w3' := hb2'.grown hg2' hb2'.size (fun k e => (hown1'.lt k e).1)
    have HST' := Lib.hid (HR.out.store hb3' hown2' (by simp; omega) hdep)
    obtain ⟨r0, rz⟩ := cell_box (HR.out.call HB1.out).blk
    obtain ⟨m0, mz⟩ := cell_box (HR.out.call hb3).blk
    obtain ⟨n0, nz⟩ := cell_box (HR.out.call hb3').blk
    have hrl1 : rb < w1.heap.size := Nat.lt_of_lt_of_le hrl HB1.out.size
    obtain ⟨b0, b1, bl⟩ := bx_all HBX1.out
    obtain ⟨d0, d1, dl⟩ := bx_all hbx2
    clear hbA hown1' hg1' hb2' hnew' hown2' hg2' hb3' hdep
    clear hown1 hg1 hb2 hbx2 hown2 hg2 hb3
    go_region
    all_goals
      go_wp2
      go_ret
      first
      | exact ⟨rfl, ⟨_, HST.out.1⟩, HST.out.2⟩
      | exact ⟨rfl, ⟨_, HST'.out.1⟩, HST'.out.2⟩
end Go.Proofs.Ytebgmphbkjpfcaa
