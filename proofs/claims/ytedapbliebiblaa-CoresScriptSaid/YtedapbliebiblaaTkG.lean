/- package tlb: drop. -/
import Derived.Test.YtedapbliebiblaaTkD
import Derived.Stop.RegionWithIn
namespace Go.Proofs.Ytedapbliebiblaa
set_option linter.unusedVariables false
open Go.RowKit Go.Shelf

attribute [local go_sem] Oper.semAt_some
/-- Where drop's own boxes lie, and what has become of the cache. -/
structure DropAt (w : World) (b : Nat) (S : Nat → TransX × TransX × Int) (out : TransX → Bool) (fv : Value) (pre : List (Nat × Nat)) (W : World) : Prop where
  tlb : TlbAt W b (dropF S out pre).1
  fn : W.cell? ⟨w.heap.size, 0, none⟩ = some fv
  n : W.cell? ⟨w.heap.size + 1, 0, none⟩ = some (.int .i64 ((dropF S out pre).2))
  nz : W.frozen? ⟨w.heap.size + 1, 0, none⟩ = false
  box : W.cell? ⟨w.heap.size + 1 + 1, 0, none⟩ = some (.pointer (some ⟨b, 0, none⟩))
  lt : w.heap.size + 3 ≤ W.heap.size
  only : TlbOnly b w W
theorem DropAt.of_grown {w : World} {b : Nat} {S : Nat → TransX × TransX × Int} {out : TransX → Bool} {fv : Value} (hb : b < w.heap.size) : OwnFrom (w.heap.size + 3) (DropAt w b S out fv) := by
  intro s A B row h hg hr
  have e : ∀ k, k < w.heap.size + 3 → B.heap[k]? = A.heap[k]? := fun k hk => hg.block k (Nat.lt_of_lt_of_le hk h.lt) (fun e => by have := (hr k e.symm).1; omega)
  have sz := hg.size
  exact ⟨h.tlb.of_block sz (e b (by omega)), (cell_of_block (e _ (by omega))).trans h.fn, (cell_of_block (e _ (by omega))).trans h.n, (frozen_of_block (e _ (by omega))).trans h.nz, (cell_of_block (e _ (by omega))).trans h.box, Nat.le_trans h.lt sz,
    ⟨hg.os.trans h.only.os, hg.tape.trans h.only.tape, hg.output.trans h.only.output, Nat.le_trans h.only.size sz, fun k hk hn => (e k (by omega)).trans (h.only.block k hk hn)⟩⟩
set_option maxRecDepth 100000 in
set_option maxHeartbeats 1000000 in
theorem drop_page (w : World) (b : Nat) (S : Nat → TransX × TransX × Int) (out : TransX → Bool) (p0 p1 : Nat) (hT : TlbAt w b S) (hok : ∀ k j, k < 4 → j < 2 → OkT (wayP S (k, j)))
    (hF : ∀ x W, TlbOnly b w W → Calls Try.prog 57 (#[trX x, .pointer (some ⟨p0, 0, none⟩), .pointer (some ⟨p1, 0, none⟩)]) W fun e W' => e = .returned (.bool (out x)) ∧ Below W.heap.size W W') :
    CallsIn Fence.wide 3 Try.prog 56 #[.pointer (some ⟨b, 0, none⟩), .func (.func 57) #[] #[.pointer (some ⟨p0, 0, none⟩), .pointer (some ⟨p1, 0, none⟩)]] w fun e W' => e = .returned (.int .i64 ((dropF S out (fullP S 8)).2)) ∧ TlbAt W' b (dropF S out (fullP S 8)).1 ∧ TlbOnly b w W' := by
  have HF := Lib.hid hF
  have HO := Lib.hid hok
  have HT := Lib.hid hT
  have hb := hT.lt
  clear hF hok hT
  refine callsIn_of_wp_marks Try.func56 rfl trivial ?_ rfl
  simp only [Try.ntmps56, List.size_toArray, List.length_cons, List.length_nil, Nat.reduceAdd, Nat.reduceSub, Array.replicate_succ, Array.replicate_zero, List.push_toArray, List.append_toArray, List.nil_append, List.cons_append]
  gi_wp2_with (refine ⟨trivial, ?_⟩; gi_at_call 66; refine (each_in _ _ _).mono ?_; rintro e w' ⟨rfl, rfl⟩)
  obtain ⟨w1, hw1⟩ : ∃ x, x = ((w.alloc (.cells #[.func (.func 57) #[] #[.pointer (some ⟨p0, 0, none⟩), .pointer (some ⟨p1, 0, none⟩)]] 133)).alloc (.cells #[.int .i64 0] 3)).alloc (.cells #[.pointer (some ⟨b, 0, none⟩)] 75) := ⟨_, rfl⟩
  rw [← hw1]
  have hsz : w1.heap.size = w.heap.size + 3 := by rw [hw1]; simp
  have hb1 : Below w.heap.size w w1 := hw1 ▸ bal (bal (bal (Below.refl _ _) _) _) _
  have inv : DropAt w b S out (.func (.func 57) #[] #[.pointer (some ⟨p0, 0, none⟩), .pointer (some ⟨p1, 0, none⟩)]) [] w1 := by
    refine ⟨?_, ?_, ?_, ?_, ?_, by omega, TlbOnly.of_below hb1⟩
    · exact HT.out.call hb1
    all_goals (rw [hw1]; go_simp; try rfl)
  clear hw1
  refine wpIn_range_linked (α := Nat × Nat) rfl (by decide) (gf := 79) (lb := #[.pointer (some ⟨w.heap.size + 1 + 1, 0, none⟩)]) rfl trivial (enters_of Try.func79 (by kernel_rfl) rfl)
    (encs := fun x => #[.pointer (some ⟨b, x.1 * 11 + x.2 * 5, none⟩)]) (V := fun x => x.1 < 4 ∧ x.2 < 2) (S := fun xs => xs = fullP S 8) (N := 8) (DropAt w b S out (.func (.func 57) #[] #[.pointer (some ⟨p0, 0, none⟩), .pointer (some ⟨p1, 0, none⟩)])) ?hseq (fun _ => rfl) (hsz ▸ DropAt.of_grown hb) inv
    (fun x => { tmps := #[.pointer (some ⟨b, 0, none⟩), .func (.func 57) #[] #[.pointer (some ⟨p0, 0, none⟩), .pointer (some ⟨p1, 0, none⟩)], undef, .pointer (some ⟨w.heap.size, 0, none⟩), .int .i64 0, .pointer (some ⟨w.heap.size + 1, 0, none⟩), .pointer (some ⟨b, x.1 * 11 + x.2 * 5, none⟩), .pointer (some ⟨b, 0, none⟩), .func (.func 79) #[] #[.pointer (some ⟨w.heap.size + 1 + 1, 0, none⟩)], .pointer (some ⟨b, x.1 * 11 + x.2 * 5, none⟩), undef, undef, undef, undef, undef, undef, undef, undef, undef, undef, undef], defers := [] }) ?hassign ?hbody ?hdone
  case hseq =>
    intro l J W hB hAb hJI hY h0
    exact each1_linked _ l b (w.heap.size + 1 + 1) W S HO.out J hY h0 (fun pre W1 hJ => ⟨⟨_, (hJI pre W1 hJ).tlb, fun k j hk hj hn => dropF_no hj hn⟩, (hJI pre W1 hJ).box⟩)
  case hassign =>
    intro l x W K hK
    gi_wp2
    exact hK
  case hbody =>
    rintro l pre ⟨k, j⟩ W ⟨hk, hj⟩ hI hlen
    simp only at hk hj
    have hwc := way_cells hI.tlb (k := k) (j := j) hk hj
    obtain ⟨c0, c1, c2, c3, c4⟩ := hwc
    have hfn := hI.fn
    gi_wp2
    have hcl := HF.out (wayP (dropF S out pre).1 (k, j)) W.drew ⟨hI.only.os, hI.only.tape, hI.only.output, hI.only.size, hI.only.block⟩
    cases ho : out (wayP (dropF S out pre).1 (k, j))
    · rw [ho] at hcl
      have HCL := Lib.hid hcl
      clear hcl
      gi_region_with (first | (refine ⟨trivial, ?_⟩; gi_at_call 57; refine (CallsIn.inRound l (callsIn_wide.2 HCL.out)).mono ?_; rintro e w2 ⟨rfl, hb2⟩))
      all_goals gi_wp2
      all_goals
        have hb3 := Below.of_drew hb2
        refine ⟨KeepsOthers.of_below hb3, ?_⟩
        have e := fun q (hq : q < W.heap.size) => hb3.block q hq
        have hlt := hI.lt
        have hs : dropF S out (pre ++ [(k, j)]) = dropF S out pre := by rw [dropF_snoc]; unfold dropStep; rw [if_neg (by rw [ho]; decide)]
        exact ⟨by rw [hs]; exact hI.tlb.call hb3, (cell_of_block (e _ (by omega))).trans hI.fn, by rw [hs]; exact (cell_of_block (e _ (by omega))).trans hI.n, (frozen_of_block (e _ (by omega))).trans hI.nz, (cell_of_block (e _ (by omega))).trans hI.box, Nat.le_trans hlt hb3.size, hI.only.trans (TlbOnly.of_below hb3)⟩
    · rw [ho] at hcl
      have HCL := Lib.hid hcl
      clear hcl
      gi_region_with (first | (refine ⟨trivial, ?_⟩; gi_at_call 57; refine (CallsIn.inRound l (callsIn_wide.2 HCL.out)).mono ?_; rintro e w2 ⟨rfl, hb2⟩))
      all_goals
        have hb3 := Below.of_drew hb2
        clear hb2 c0 c1 c2 c3 c4
        have hT2 := hI.tlb.call hb3
        obtain ⟨d0, d1, d2, d3, d4⟩ := way_cells hT2 hk hj
        have dz := hT2.free
        have hlt := hI.lt
        have dn : w2.cell? ⟨w.heap.size + 1, 0, none⟩ = some (.int .i64 (dropF S out pre).2) := (cell_of_block (hb3.block _ (by omega))).trans hI.n
        have dnz : w2.frozen? ⟨w.heap.size + 1, 0, none⟩ = false := (frozen_of_block (hb3.block _ (by omega))).trans hI.nz
        have hne : b ≠ w.heap.size + 1 := by omega
        have hN := dropF_le out pre (S, 0)
        have hN' : (dropF S out pre).2 ≤ 8 := by unfold dropF; simp only at hN; omega
        generalize hnn : (dropF S out pre).2 = nn at *
        clear hN
        have HI := Lib.hid hI
        have HT2 := Lib.hid hT2
        have HNN := Lib.hid hnn
        clear hI hT2 hfn hnn
        gi_wp2
      all_goals
        have hI := HI.out
        obtain ⟨t5, o5⟩ := wipe_way HT2.out hk hj
        refine ⟨keepsOthers_set (keepsOthers_set (keepsOthers_set (keepsOthers_set (keepsOthers_set (keepsOthers_set (KeepsOthers.of_below hb3) _ _) _ _) _ _) _ _) _ _) _ _, ?_⟩
        generalize (((((w2.setCell ⟨b, k * 11 + j * 5, none⟩ (.int .i64 0)).setCell ⟨b, k * 11 + j * 5 + 1, none⟩ (.int .i64 0)).setCell ⟨b, k * 11 + j * 5 + 2, none⟩ (.int .i64 0)).setCell ⟨b, k * 11 + j * 5 + 3, none⟩ (.bool false)).setCell ⟨b, k * 11 + j * 5 + 4, none⟩ (.bool false)) = W5 at t5 o5 ⊢
        have hs : dropF S out (pre ++ [(k, j)]) = (wipeP (dropF S out pre).1 (k, j), nn + 1) := by rw [dropF_snoc]; unfold dropStep; rw [if_pos ho, HNN.out]
        have hb2 := hb3.size
        have o6 : ∀ q, q < W.heap.size → q ≠ b → W5.heap[q]? = W.heap[q]? := fun q h1 h2 => (o5.block q (by omega) h2).trans (hb3.block q h1)
        have o7 : ∀ q, q < W.heap.size → q ≠ b → q ≠ w.heap.size + 1 → (W5.setCell ⟨w.heap.size + 1, 0, none⟩ (.int .i64 (nn + 1))).heap[q]? = W.heap[q]? := fun q h1 h2 h3 => (heap_setCell_other _ _ q _ h3).trans (o6 q h1 h2)
        have n5 : W5.cell? ⟨w.heap.size + 1, 0, none⟩ = some (.int .i64 nn) := (cell_of_block (o5.block _ (by omega) (fun e => hne e.symm))).trans dn
        have s5 := o5.size
        refine ⟨?_, (cell_of_block (o7 _ (by omega) (by omega) (by omega))).trans hI.fn, ?_, (World.frozen?_setCell ..).trans ((frozen_of_block (o6 _ (by omega) (by omega))).trans hI.nz), (cell_of_block (o7 _ (by omega) (by omega) (by omega))).trans hI.box, by simp; omega, ?_⟩
        · rw [hs]
          exact t5.of_block (by simp) (heap_setCell_other _ _ b _ hne)
        · rw [hs]
          exact World.cell?_setCell_same' _ _ _ (by rw [n5]; rfl)
        · exact ⟨o5.os.trans (hb3.os.trans hI.only.os), o5.tape.trans (hb3.tape.trans hI.only.tape), o5.output.trans (hb3.output.trans hI.only.output), by have := hI.only.size; simp; omega, fun q h1 h2 => (o7 q (by have := hI.only.size; omega) h2 (by omega)).trans (hI.only.block q h1 h2)⟩
  case hdone =>
    rintro D xs W hD rfl hI hK
    have hn := hI.n
    gi_wp2
    refine ⟨by simp, .inl ⟨_, _, rfl, run_takeDeferred hK, ?_⟩⟩
    have hD' : w.heap.size + 3 ≤ D := by omega
    exact ⟨_, results_tmp rfl _ _ _, rfl, hI.tlb.of_block (by simp [World.putObj]) (World.putObj_heap_other (by omega)), ⟨hI.only.os, hI.only.tape, hI.only.output, by have := hI.only.size; simp [World.putObj]; omega, fun q h1 h2 => (World.putObj_heap_other (by omega)).trans (hI.only.block q h1 h2)⟩⟩
set_option maxRecDepth 100000 in
set_option maxHeartbeats 1000000 in
theorem drop_space (w : World) (b : Nat) (S : Nat → TransX × TransX × Int) (out : TransX → Bool) (p0 : Nat) (hT : TlbAt w b S) (hok : ∀ k j, k < 4 → j < 2 → OkT (wayP S (k, j)))
    (hF : ∀ x W, TlbOnly b w W → Calls Try.prog 67 (#[trX x, .pointer (some ⟨p0, 0, none⟩)]) W fun e W' => e = .returned (.bool (out x)) ∧ Below W.heap.size W W') :
    CallsIn Fence.wide 3 Try.prog 56 #[.pointer (some ⟨b, 0, none⟩), .func (.func 67) #[] #[.pointer (some ⟨p0, 0, none⟩)]] w fun e W' => e = .returned (.int .i64 ((dropF S out (fullP S 8)).2)) ∧ TlbAt W' b (dropF S out (fullP S 8)).1 ∧ TlbOnly b w W' := by
  have HF := Lib.hid hF
  have HO := Lib.hid hok
  have HT := Lib.hid hT
  have hb := hT.lt
  clear hF hok hT
  refine callsIn_of_wp_marks Try.func56 rfl trivial ?_ rfl
  simp only [Try.ntmps56, List.size_toArray, List.length_cons, List.length_nil, Nat.reduceAdd, Nat.reduceSub, Array.replicate_succ, Array.replicate_zero, List.push_toArray, List.append_toArray, List.nil_append, List.cons_append]
  gi_wp2_with (refine ⟨trivial, ?_⟩; gi_at_call 66; refine (each_in _ _ _).mono ?_; rintro e w' ⟨rfl, rfl⟩)
  obtain ⟨w1, hw1⟩ : ∃ x, x = ((w.alloc (.cells #[.func (.func 67) #[] #[.pointer (some ⟨p0, 0, none⟩)]] 133)).alloc (.cells #[.int .i64 0] 3)).alloc (.cells #[.pointer (some ⟨b, 0, none⟩)] 75) := ⟨_, rfl⟩
  rw [← hw1]
  have hsz : w1.heap.size = w.heap.size + 3 := by rw [hw1]; simp
  have hb1 : Below w.heap.size w w1 := hw1 ▸ bal (bal (bal (Below.refl _ _) _) _) _
  have inv : DropAt w b S out (.func (.func 67) #[] #[.pointer (some ⟨p0, 0, none⟩)]) [] w1 := by
    refine ⟨?_, ?_, ?_, ?_, ?_, by omega, TlbOnly.of_below hb1⟩
    · exact HT.out.call hb1
    all_goals (rw [hw1]; go_simp; try rfl)
  clear hw1
  refine wpIn_range_linked (α := Nat × Nat) rfl (by decide) (gf := 79) (lb := #[.pointer (some ⟨w.heap.size + 1 + 1, 0, none⟩)]) rfl trivial (enters_of Try.func79 (by kernel_rfl) rfl)
    (encs := fun x => #[.pointer (some ⟨b, x.1 * 11 + x.2 * 5, none⟩)]) (V := fun x => x.1 < 4 ∧ x.2 < 2) (S := fun xs => xs = fullP S 8) (N := 8) (DropAt w b S out (.func (.func 67) #[] #[.pointer (some ⟨p0, 0, none⟩)])) ?hseq (fun _ => rfl) (hsz ▸ DropAt.of_grown hb) inv
    (fun x => { tmps := #[.pointer (some ⟨b, 0, none⟩), .func (.func 67) #[] #[.pointer (some ⟨p0, 0, none⟩)], undef, .pointer (some ⟨w.heap.size, 0, none⟩), .int .i64 0, .pointer (some ⟨w.heap.size + 1, 0, none⟩), .pointer (some ⟨b, x.1 * 11 + x.2 * 5, none⟩), .pointer (some ⟨b, 0, none⟩), .func (.func 79) #[] #[.pointer (some ⟨w.heap.size + 1 + 1, 0, none⟩)], .pointer (some ⟨b, x.1 * 11 + x.2 * 5, none⟩), undef, undef, undef, undef, undef, undef, undef, undef, undef, undef, undef], defers := [] }) ?hassign ?hbody ?hdone
  case hseq =>
    intro l J W hB hAb hJI hY h0
    exact each1_linked _ l b (w.heap.size + 1 + 1) W S HO.out J hY h0 (fun pre W1 hJ => ⟨⟨_, (hJI pre W1 hJ).tlb, fun k j hk hj hn => dropF_no hj hn⟩, (hJI pre W1 hJ).box⟩)
  case hassign =>
    intro l x W K hK
    gi_wp2
    exact hK
  case hbody =>
    rintro l pre ⟨k, j⟩ W ⟨hk, hj⟩ hI hlen
    simp only at hk hj
    have hwc := way_cells hI.tlb (k := k) (j := j) hk hj
    obtain ⟨c0, c1, c2, c3, c4⟩ := hwc
    have hfn := hI.fn
    gi_wp2
    have hcl := HF.out (wayP (dropF S out pre).1 (k, j)) W.drew ⟨hI.only.os, hI.only.tape, hI.only.output, hI.only.size, hI.only.block⟩
    cases ho : out (wayP (dropF S out pre).1 (k, j))
    · rw [ho] at hcl
      have HCL := Lib.hid hcl
      clear hcl
      gi_region_with (first | (refine ⟨trivial, ?_⟩; gi_at_call 67; refine (CallsIn.inRound l (callsIn_wide.2 HCL.out)).mono ?_; rintro e w2 ⟨rfl, hb2⟩))
      all_goals gi_wp2
      all_goals
        have hb3 := Below.of_drew hb2
        refine ⟨KeepsOthers.of_below hb3, ?_⟩
        have e := fun q (hq : q < W.heap.size) => hb3.block q hq
        have hlt := hI.lt
        have hs : dropF S out (pre ++ [(k, j)]) = dropF S out pre := by rw [dropF_snoc]; unfold dropStep; rw [if_neg (by rw [ho]; decide)]
        exact ⟨by rw [hs]; exact hI.tlb.call hb3, (cell_of_block (e _ (by omega))).trans hI.fn, by rw [hs]; exact (cell_of_block (e _ (by omega))).trans hI.n, (frozen_of_block (e _ (by omega))).trans hI.nz, (cell_of_block (e _ (by omega))).trans hI.box, Nat.le_trans hlt hb3.size, hI.only.trans (TlbOnly.of_below hb3)⟩
    · rw [ho] at hcl
      have HCL := Lib.hid hcl
      clear hcl
      gi_region_with (first | (refine ⟨trivial, ?_⟩; gi_at_call 67; refine (CallsIn.inRound l (callsIn_wide.2 HCL.out)).mono ?_; rintro e w2 ⟨rfl, hb2⟩))
      all_goals
        have hb3 := Below.of_drew hb2
        clear hb2 c0 c1 c2 c3 c4
        have hT2 := hI.tlb.call hb3
        obtain ⟨d0, d1, d2, d3, d4⟩ := way_cells hT2 hk hj
        have dz := hT2.free
        have hlt := hI.lt
        have dn : w2.cell? ⟨w.heap.size + 1, 0, none⟩ = some (.int .i64 (dropF S out pre).2) := (cell_of_block (hb3.block _ (by omega))).trans hI.n
        have dnz : w2.frozen? ⟨w.heap.size + 1, 0, none⟩ = false := (frozen_of_block (hb3.block _ (by omega))).trans hI.nz
        have hne : b ≠ w.heap.size + 1 := by omega
        have hN := dropF_le out pre (S, 0)
        have hN' : (dropF S out pre).2 ≤ 8 := by unfold dropF; simp only at hN; omega
        generalize hnn : (dropF S out pre).2 = nn at *
        clear hN
        have HI := Lib.hid hI
        have HT2 := Lib.hid hT2
        have HNN := Lib.hid hnn
        clear hI hT2 hfn hnn
        gi_wp2
      all_goals
        have hI := HI.out
        obtain ⟨t5, o5⟩ := wipe_way HT2.out hk hj
        refine ⟨keepsOthers_set (keepsOthers_set (keepsOthers_set (keepsOthers_set (keepsOthers_set (keepsOthers_set (KeepsOthers.of_below hb3) _ _) _ _) _ _) _ _) _ _) _ _, ?_⟩
        generalize (((((w2.setCell ⟨b, k * 11 + j * 5, none⟩ (.int .i64 0)).setCell ⟨b, k * 11 + j * 5 + 1, none⟩ (.int .i64 0)).setCell ⟨b, k * 11 + j * 5 + 2, none⟩ (.int .i64 0)).setCell ⟨b, k * 11 + j * 5 + 3, none⟩ (.bool false)).setCell ⟨b, k * 11 + j * 5 + 4, none⟩ (.bool false)) = W5 at t5 o5 ⊢
        have hs : dropF S out (pre ++ [(k, j)]) = (wipeP (dropF S out pre).1 (k, j), nn + 1) := by rw [dropF_snoc]; unfold dropStep; rw [if_pos ho, HNN.out]
        have hb2 := hb3.size
        have o6 : ∀ q, q < W.heap.size → q ≠ b → W5.heap[q]? = W.heap[q]? := fun q h1 h2 => (o5.block q (by omega) h2).trans (hb3.block q h1)
        have o7 : ∀ q, q < W.heap.size → q ≠ b → q ≠ w.heap.size + 1 → (W5.setCell ⟨w.heap.size + 1, 0, none⟩ (.int .i64 (nn + 1))).heap[q]? = W.heap[q]? := fun q h1 h2 h3 => (heap_setCell_other _ _ q _ h3).trans (o6 q h1 h2)
        have n5 : W5.cell? ⟨w.heap.size + 1, 0, none⟩ = some (.int .i64 nn) := (cell_of_block (o5.block _ (by omega) (fun e => hne e.symm))).trans dn
        have s5 := o5.size
        refine ⟨?_, (cell_of_block (o7 _ (by omega) (by omega) (by omega))).trans hI.fn, ?_, (World.frozen?_setCell ..).trans ((frozen_of_block (o6 _ (by omega) (by omega))).trans hI.nz), (cell_of_block (o7 _ (by omega) (by omega) (by omega))).trans hI.box, by simp; omega, ?_⟩
        · rw [hs]
          exact t5.of_block (by simp) (heap_setCell_other _ _ b _ hne)
        · rw [hs]
          exact World.cell?_setCell_same' _ _ _ (by rw [n5]; rfl)
        · exact ⟨o5.os.trans (hb3.os.trans hI.only.os), o5.tape.trans (hb3.tape.trans hI.only.tape), o5.output.trans (hb3.output.trans hI.only.output), by have := hI.only.size; simp; omega, fun q h1 h2 => (o7 q (by have := hI.only.size; omega) h2 (by omega)).trans (hI.only.block q h1 h2)⟩
  case hdone =>
    rintro D xs W hD rfl hI hK
    have hn := hI.n
    gi_wp2
    refine ⟨by simp, .inl ⟨_, _, rfl, run_takeDeferred hK, ?_⟩⟩
    have hD' : w.heap.size + 3 ≤ D := by omega
    exact ⟨_, results_tmp rfl _ _ _, rfl, hI.tlb.of_block (by simp [World.putObj]) (World.putObj_heap_other (by omega)), ⟨hI.only.os, hI.only.tape, hI.only.output, by have := hI.only.size; simp [World.putObj]; omega, fun q h1 h2 => (World.putObj_heap_other (by omega)).trans (hI.only.block q h1 h2)⟩⟩
end Go.Proofs.Ytedapbliebiblaa
