import Derived.Test.YtnjdljjmengjbaaDoorPki
import Derived.Test.YtnjdljjmengjbaaDoorPkc
import Derived.Sort.CutIn
import Derived.StillTailTactics
import Derived.Test.YtnjdljjmengjbaaDoorPkh
import Derived.IntWalk
import Derived.Deep.RegionWith
import Derived.Deep.RegionHeld3
namespace Go.Proofs.YtnjdljjmengjbaaDoor
/- chapter 16: awake; without slots or arena. -/
section
set_option linter.unusedVariables false
set_option linter.unusedSimpArgs false
open Go.ChangeShapes Go.WideShapes Go.ChangeAt Go.RowKit Go.Shelf

namespace LkS
open TabS (Cp Sn zC mayC)
theorem puts_nil (W : World) : PutsAt W none 0 (fun _ => ⟨0, 0, zC⟩) := ⟨0, 0, fun h => by omega, fun k h => by omega⟩
theorem room_nil (W : World) (hT : CX.TabG W) : Calls Tryd.prog 9 #[.slice none 0 0] W fun e w' => ∃ sb srb b rb, e = .returned (.tuple #[.pointer (some ⟨sb, 0, none⟩), .pointer (some ⟨b, 0, none⟩), .pointer (some ⟨srb, 0, none⟩), .pointer (some ⟨rb, 0, none⟩)]) ∧ RmP W w' sb srb b rb (cnS 5) (cnS 5) := room_any W none 0 0 _ (by omega) (puts_nil W) hT
theorem res_5 : resR (cnS 5) (stO 5).2 ⟨2, 5, 0, 0, 0, 8, 0, 0⟩ 5 12 = (5, 5, 0) := by decide +kernel
theorem res_105 : resR (cnS 5) (stO 5).2 ⟨2, 5, 0, 0, 0, 8, 0, 0⟩ 261 12 = (0, 0, 12) := by decide +kernel
set_option maxRecDepth 100000 in
set_option maxHeartbeats 1000000 in
theorem awake16 (W : World) (hT : CX.TabG W) : Calls Tryd.prog 8 #[] W fun e w' => e = .returned (.bool true) ∧ Below W.heap.size W w' := by
  have HT := Lib.hid hT
  clear hT
  go_enter Tryd.func8, Tryd.ntmps8
  go_upto_region 5 with (go_at_call 9; (with_reducible refine (room_nil _ HT.out).mono ?_); rintro e w1 ⟨sb, srb, b, rb, rfl, h1⟩; have H1 := Lib.hid h1; clear h1)
  obtain ⟨w2, hw2⟩ : ∃ y, y = w1.alloc (.cells #[.int .i64 2, .int .i64 5, .int .i64 0, .int .u64 0, .int .i64 0, .int .i64 8, .int .i64 0, .int .i64 0] 25) := ⟨_, rfl⟩
  have hb2 : Below w1.heap.size w1 w2 := hw2 ▸ bal (Below.refl _ _) _
  have hc2 : w2.heap[w1.heap.size]? = some (.cells (Cp.L ⟨2, 5, 0, 0, 0, 8, 0, 0⟩).toArray 25 (0, 0)) := by rw [hw2]; exact heap_alloc_new w1 _
  rw [← hw2]
  have H2 := Lib.hid (H1.out.call hb2)
  have HC2 := Lib.hid hc2
  obtain ⟨x0, x1, x2, x3, x4, x5, x6, x7⟩ := cap_cells hc2
  simp only [] at x0 x1 x2 x3 x4 x5 x6 x7
  have R1 : Hid (∀ v, RmP W v sb srb b rb (cnS 5) (cnS 5) → Calls Tryd.prog 10 #[.pointer (some ⟨sb, 0, none⟩), .pointer (some ⟨b, 0, none⟩), .agg #[.int .i64 2, .int .i64 5, .int .i64 0, .int .u64 0, .int .i64 0, .int .i64 8, .int .i64 0, .int .i64 0], .int .u64 5, .int .i64 12] v fun e w' => e = .returned (.tuple #[.agg #[.int .i64 5, .int .i64 5], .int .i64 0]) ∧ Below v.heap.size v w') := Lib.hid (fun v hv => by
    have := hv.resolve HT.out caps_cn ⟨2, 5, 0, 0, 0, 8, 0, 0⟩ 5 12 (by decide) (by decide)
    rw [res_5] at this
    exact this)
  have R2 : Hid (∀ v, RmP W v sb srb b rb (cnS 5) (cnS 5) → Calls Tryd.prog 10 #[.pointer (some ⟨sb, 0, none⟩), .pointer (some ⟨b, 0, none⟩), .agg #[.int .i64 2, .int .i64 5, .int .i64 0, .int .u64 0, .int .i64 0, .int .i64 8, .int .i64 0, .int .i64 0], .int .u64 261, .int .i64 12] v fun e w' => e = .returned (.tuple #[.agg #[.int .i64 0, .int .i64 0], .int .i64 12]) ∧ Below v.heap.size v w') := Lib.hid (fun v hv => by
    have := hv.resolve HT.out caps_cn ⟨2, 5, 0, 0, 0, 8, 0, 0⟩ 261 12 (by decide) (by decide)
    rw [res_105] at this
    exact this)
  generalize w1.heap.size = xB at *
  clear hw2 hb2 hc2 H1
  go_upto_region 6 with (go_at_call 10; (with_reducible refine (R1.out _ H2.out).mono ?_); rintro e w3 ⟨rfl, hb3⟩; have HB3 := Lib.hid hb3; clear hb3)
  obtain ⟨w4, hw4⟩ : ∃ y, y = w3.alloc (.cells #[.int .i64 5, .int .i64 5] 34) := ⟨_, rfl⟩
  have hb4 : Below w2.heap.size w2 w4 := hw4 ▸ bal HB3.out _
  have hs4 : w4.heap[w3.heap.size]? = some (.cells #[.int .i64 5, .int .i64 5] 34 (0, 0)) := by rw [hw4]; exact heap_alloc_new w3 _
  rw [← hw4]
  have H4 := Lib.hid (H2.out.call hb4)
  have HC4 := Lib.hid ((hb4.block xB (Array.getElem?_eq_some_iff.1 HC2.out).1).trans HC2.out)
  have HS4 := Lib.hid hs4
  clear x0 x1 x2 x3 x4 x5 x6 x7
  obtain ⟨x0, x1, x2, x3, x4, x5, x6, x7⟩ := cap_cells HC4.out
  simp only [] at x0 x1 x2 x3 x4 x5 x6 x7
  generalize w3.heap.size = yB at *
  clear hw4 hb4 hs4 H2 HC2 HB3 R1
  go_upto_region 7 with (go_at_call 10; (with_reducible refine (R2.out _ H4.out).mono ?_); rintro e w5 ⟨rfl, hb5⟩; have HB5 := Lib.hid hb5; clear hb5)
  obtain ⟨w6, hw6⟩ : ∃ y, y = w5.alloc (.cells #[.int .i64 0, .int .i64 0] 34) := ⟨_, rfl⟩
  have hb6 : Below w4.heap.size w4 w6 := hw6 ▸ bal HB5.out _
  have hs6 := (hb6.block yB (Array.getElem?_eq_some_iff.1 HS4.out).1).trans HS4.out
  rw [← hw6]
  have H6 := Lib.hid (H4.out.call hb6)
  obtain ⟨k0, k1, -, -⟩ := slot_cells hs6
  clear hw6 hb6 hs6 H4 HC4 HS4 HB5 R2 x0 x1 x2 x3 x4 x5 x6 x7
  go_wp2
  go_ret
  exact ⟨rfl, H6.out.below⟩
end LkS
end
/- package lookup: Path. -/
section
set_option linter.unusedVariables false
set_option linter.unusedSimpArgs false
open Go.ChangeShapes Go.WideShapes Go.ChangeAt Go.RowKit Go.Shelf
attribute [local go_sem] Oper.semAt_some

namespace LkS
open TabS (Cp Sn zC mayC sizS getR Two Pr SlotsAt)
theorem infoSlo : (Tryd.prog.info? 34).map (fun i => (i.zero, i.size, i.bytes)) = some (some (.agg #[.int .i64 0, .int .i64 0]), 2, 16) := by kernel_rfl
def Nx.cells (p : Nx) : List Value := [.int .i64 p.n, .int .i64 (p.i : Int)]
def slC (P : List Nx) : List Value := P.flatMap Nx.cells
theorem slC_snoc (P : List Nx) (p : Nx) : slC (P ++ [p]) = slC P ++ p.cells := by simp [slC]
/-- What a round of Path finds: the row so far, in the box P0. -/
structure PaI (wA : World) (P0 : Nat) (P : List Nx) (k : Nat) (W : World) : Prop where
  os : W.os = wA.os
  tape : W.tape = wA.tape
  output : W.output = wA.output
  size : wA.heap.size ≤ W.heap.size
  keep : ∀ j, j < wA.heap.size → j ≠ P0 → W.heap[j]? = wA.heap[j]?
  row : ∃ v, W.heap[P0]? = some (.cells #[v] 40 (0, 0)) ∧ W.ownsRow wA.heap.size 34 2 v k (slC (P.take k))
theorem PaI.below {w wA W : World} {P0 k : Nat} {P : List Nx} (h : PaI wA P0 P k W) (hb : Below w.heap.size w wA) (hF : w.heap.size ≤ P0) : Below w.heap.size w W :=
  hb.trans ⟨h.os, h.tape, h.output, h.size, fun j hj => h.keep j (by have := hb.size; omega) (by omega)⟩
theorem own_of {w : World} {base s n : Nat} {e : TypeId} {v : Value} {xs : List Value} (h : w.ownsRow base e s v n xs) {g : Nat} (hg : v.ownBlock = some g) : base ≤ g ∧ ∃ cur, w.heap[g]? = some (.cells cur e (0, 0)) := by
  rcases h.2 with ⟨rfl, _⟩ | ⟨g', cap, cur, rfl, h1, h2, _⟩
  · cases hg
  · cases hg
    exact ⟨h1, cur, h2⟩
theorem PaI.own {wA W : World} {P0 k g : Nat} {P : List Nx} (h : PaI wA P0 P k W) (hg : OwnAt W P0 g) : wA.heap.size ≤ g ∧ ∃ cur, W.heap[g]? = some (.cells cur 34 (0, 0)) := by
  obtain ⟨v, h1, h2⟩ := h.row
  obtain ⟨u, h3, h4⟩ := hg
  rw [(cell_box h1).1] at h3
  cases h3
  exact own_of h2 h4
theorem PaI.from {wA : World} {P0 : Nat} {P : List Nx} (hF : P0 < wA.heap.size) : OwnFromX 34 P0 wA.heap.size (PaI wA P0 P) := by
  intro s A C row h hg hr
  have e : ∀ k, k < wA.heap.size → C.heap[k]? = A.heap[k]? := fun k hk => hg.block k (Nat.lt_of_lt_of_le hk h.size) (fun e => by have := (hr k e.symm).1; omega)
  obtain ⟨v, h1, h2⟩ := h.row
  refine ⟨hg.os.trans h.os, hg.tape.trans h.tape, hg.output.trans h.output, Nat.le_trans h.size hg.size, fun j hj hn => (e j hj).trans (h.keep j hj hn), v, (e _ hF).trans h1, TabS.row_of_block h2 (fun g hgv => ?_)⟩
  obtain ⟨q1, cur, q2⟩ := own_of h2 hgv
  refine hg.block g (Array.getElem?_eq_some_iff.1 q2).1 (fun er => ?_)
  obtain ⟨_, o, ho, q3⟩ := hr g er.symm
  rw [q2] at ho
  cases ho
  rcases q3 with q3 | q3
  · simp [Obj.rowOf] at q3
  · exact q3 ⟨v, (cell_box h1).1, hgv⟩
set_option maxRecDepth 100000 in
set_option maxHeartbeats 2000000 in
theorem path_in (w : World) (sb b : Nat) (L : List Sn) (O : List Ob) (c : Cp) (a d : Nat) (h : Sees w sb b L O) (hR : Rad O) (hC : CapsOk L) (he : c.e ≤ 9223372036854775807) (ha : a < 2 ^ 64) (hd : d ≤ 12) (hk : chkN a d = 0) :
    CallsIn Fence.wide 3 Tryd.prog 12 #[.pointer (some ⟨sb, 0, none⟩), .pointer (some ⟨b, 0, none⟩), c.V, .int .u64 a, .int .i64 d] w fun e w' => ∃ v, e = .returned v ∧ w'.ownsRow w.heap.size 34 2 v (pathP L O a d c d).length (slC (pathP L O a d c d)) ∧ Below w.heap.size w w' := by
  obtain ⟨i0, hi0, hz0, hz1, hz2⟩ := info_parts infoSlo
  have HI0 := Lib.hid hi0
  clear hi0
  have HS := Lib.hid h
  have HCK : Hid (∀ v, Sees v sb b L O → Calls Tryd.prog 27 #[.pointer (some ⟨sb, 0, none⟩), .pointer (some ⟨b, 0, none⟩), .int .u64 a, .int .i64 d] v fun e w' => e = .returned (.int .i64 0) ∧ Below v.heap.size v w') := Lib.hid (fun v hv => by rw [← hk]; exact check_any v sb b a d hv.tg ha)
  clear h hk
  have HAL := Lib.hid (show Below w.heap.size w (w.alloc (.cells #[.int .i64 c.a, .int .i64 c.b, .int .i64 c.c, .int .u64 c.d, .int .i64 c.e, .int .i64 c.f, .int .i64 c.g, .int .i64 c.h] 25)) from bal (Below.refl _ _) _)
  refine callsIn_of_wp_marks Tryd.func12 rfl trivial ?_ rfl
  simp only [Tryd.ntmps12, List.size_toArray, List.length_cons, List.length_nil, Nat.reduceAdd, Nat.reduceSub, Array.replicate_succ, Array.replicate_zero, List.push_toArray, List.append_toArray, List.nil_append, List.cons_append]
  gi_upto_region 4 with (refine ⟨trivial, ?_⟩; gi_at_call 27; (with_reducible refine (callsIn_wide.2 (HCK.out _ (HS.out.call HAL.out))).mono ?_); rintro e w1 ⟨rfl, hb1⟩; have HB1 := Lib.hid hb1; have hz1 := hb1.size; obtain ⟨hc1, hf1⟩ := bcell hb1; clear hb1)
  obtain ⟨w2, hw2⟩ : ∃ y, y = w1.alloc (.cells #[.slice none 0 0] 40) := ⟨_, rfl⟩
  have hb2 : Below w1.heap.size w1 w2 := hw2 ▸ bal (Below.refl _ _) _
  have hs2 : w2.heap.size = w1.heap.size + 1 := by rw [hw2]; simp
  have hF0 : w2.heap[w1.heap.size]? = some (.cells #[.slice none 0 0] 40 (0, 0)) := by rw [hw2]; exact heap_alloc_new w1 _
  rw [← hw2]
  have hbw1 := HAL.out.trans (HB1.out.mono HAL.out.size)
  have hbw2 := hbw1.trans (hb2.mono hbw1.size)
  have hcB : w2.heap[w.heap.size]? = some (.cells c.L.toArray 25 (0, 0)) := by
    have h0 := heap_alloc_new w (.cells c.L.toArray 25)
    exact (hb2.block _ (by simp at hz1; omega)).trans ((HB1.out.block _ (by simp)).trans h0)
  have HBW2 := Lib.hid hbw2
  have HBF : Hid (w.heap.size + 1 ≤ w1.heap.size) := Lib.hid (by simpa using hz1)
  have HF0 := Lib.hid hF0
  have HZ2 := Lib.hid hs2
  obtain ⟨x0, x1, x2, x3, x4, x5, x6, x7⟩ := cap_cells hcB
  obtain ⟨F, hF⟩ : ∃ F, F = w1.heap.size := ⟨_, rfl⟩
  rw [← hF] at HF0 HZ2 HBF ⊢
  clear hw2 hb2 hs2 hF0 hbw1 hbw2 hcB hc1 hf1 hz1 HAL HB1 HCK hF
  gi_wp2_with (refine ⟨trivial, ?_⟩; gi_at_call 28; (with_reducible refine (steps_in _ sb b c a d _).mono ?_); rintro e wA ⟨rfl, hbx, hbA, hsA⟩; have HBX := Lib.hid hbx; have HBA := Lib.hid hbA; have HSA := Lib.hid hsA; clear hbx hbA hsA)
  rw [HZ2.out]
  have hbx := HBX.out
  have hsA := HSA.out
  rw [HZ2.out] at hbx hsA
  have HBX' := Lib.hid hbx
  have hF5 : F + 5 < wA.heap.size := by omega
  have HBwA := Lib.hid (HBW2.out.trans (HBA.out.mono HBW2.out.size))
  have HFA0 := Lib.hid ((HBA.out.block F (by have := HZ2.out; omega)).trans HF0.out)
  obtain ⟨P, hP⟩ : ∃ P, P = pathP L O a d c d := ⟨_, rfl⟩
  have HPL : Hid (P.length ≤ 12) := Lib.hid (by rw [hP]; exact Nat.le_trans (pathP_len hR d c d) hd)
  have HP := Lib.hid hP
  have HRR := Lib.hid hR
  have HCC := Lib.hid hC
  clear x0 x1 x2 x3 x4 x5 x6 x7 hbx hsA hP HBX HSA HBA HF0 HBW2 hR hC
  have HWB := Lib.hid (fun (k : Nat) (W : World) (h : PaI wA F P k W) => h.below HBwA.out (by have := HBF.out; omega))
  have hIts : ∀ k W, PaI wA F P k W → Its W (F + 1) sb b L O c a d F := fun k W h => ⟨HS.out.call (HWB.out k W h), HBX'.out.keep h.size (fun j h1 h2 => h.keep j (by omega) (by omega)), fun g hg => (by
      obtain ⟨_, cur, hc⟩ := h.own hg
      exact (Array.getElem?_eq_some_iff.1 hc).1), Nat.lt_of_lt_of_le (by omega) h.size⟩
  refine wpIn_range_pz rfl (by decide) (gf := 47) (lb := #[.pointer (some ⟨F + 1 + 2, 0, none⟩), .pointer (some ⟨F + 1 + 4, 0, none⟩), .pointer (some ⟨F + 1, 0, none⟩), .pointer (some ⟨F + 1 + 1, 0, none⟩), .pointer (some ⟨F + 1 + 3, 0, none⟩)]) rfl trivial (enters_of Tryd.func47 (by kernel_rfl) rfl)
    (encs := encS P) (N := P.length) 34 F (by omega) (PaI wA F P) (fun _ _ _ => False) (by rw [HP.out]; exact steps1_py 1 (F + 1) sb b F _ L O c a d _ HRR.out HCC.out he ha hd (by rw [← HP.out]; exact hIts)) (fun _ => rfl) (PaI.from (by omega)) (fun c => fun _ _ _ _ h => h.elim) ⟨rfl, rfl, rfl, Nat.le_refl _, fun _ _ _ => rfl, _, HFA0.out, World.ownsRow_nil _ _ _ _⟩
    (fun k a' W => ∃ (dB : Nat) (p : Nx), wA.heap.size ≤ dB ∧ p = (P[k]?).getD ⟨0, 0, 0⟩ ∧ W.heap[dB]? = some (.cells #[.int .i64 p.n, .int .i64 (p.i : Int)] 34 (0, 0)) ∧ a' = { tmps := #[.pointer (some ⟨sb, 0, none⟩), .pointer (some ⟨b, 0, none⟩), c.V, .int .u64 a, .int .i64 d, undef, undef, .pointer (some ⟨w.heap.size, 0, none⟩), undef, undef, .slice none 0 0, .pointer (some ⟨F, 0, none⟩), .pointer (some ⟨dB, 0, none⟩), .pointer (some ⟨sb, 0, none⟩), .pointer (some ⟨b, 0, none⟩), .int .u64 a, .int .i64 d, .int .i64 0, .bool false, .pointer (some ⟨sb, 0, none⟩), .pointer (some ⟨b, 0, none⟩), .agg #[.int .i64 c.a, .int .i64 c.b, .int .i64 c.c, .int .u64 c.d, .int .i64 c.e, .int .i64 c.f, .int .i64 c.g, .int .i64 c.h], .int .u64 a, .int .i64 d, .func (.func 47) #[] #[.pointer (some ⟨F + 1 + 2, 0, none⟩), .pointer (some ⟨F + 1 + 4, 0, none⟩), .pointer (some ⟨F + 1, 0, none⟩), .pointer (some ⟨F + 1 + 1, 0, none⟩), .pointer (some ⟨F + 1 + 3, 0, none⟩)], .agg #[.int .i64 p.n, .int .i64 (p.i : Int)], .int .i64 p.l, undef, undef, undef, undef, undef], defers := [] }) ?hAx ?hassign ?hbody ?hdone ?hstop
  case hAx =>
    rintro k a' A l o o' ⟨dB, p, h1, h2, h3, h4⟩ hl ho
    exact ⟨dB, p, h1, h2, by
      by_cases e : dB = l
      · subst e; rw [h3] at hl; cases hl; cases ho
      · exact (World.putObj_heap_other e).trans h3, h4⟩
  case hassign =>
    intro l x W K hW hK
    gi_wp2
    exact hK _ _ ⟨W.heap.size, _, hW, rfl, heap_alloc_new W _, rfl⟩ (bal (Below.refl _ _) _)
  case hbody =>
    rintro l k W a' hkN hI ⟨dB, p, hd1, hd2, hd3, rfl⟩
    have hpk : P[k]? = some p := by rw [hd2, List.getElem?_eq_getElem hkN]; rfl
    have HTK := Lib.hid (show slC (P.take (k + 1)) = slC (P.take k) ++ p.cells by rw [List.take_add_one, hpk]; exact slC_snoc _ _)
    have HI := Lib.hid hI
    obtain ⟨v, hv1, hv2⟩ := hI.row
    obtain ⟨k0, k1, -, -⟩ := slot_cells hd3
    obtain ⟨g0, gf0⟩ := cell_box hv1
    have hsz := hI.size
    have hk12 : k < 12 := Nat.lt_of_lt_of_le hkN HPL.out
    have HV1 := Lib.hid hv1
    have HV2 := Lib.hid hv2
    have hFW : F < W.heap.size := by omega
    obtain ⟨a0, n0, c0, rfl⟩ : ∃ a0 n0 c0, v = .slice a0 n0 c0 := by
      rcases hv2.2 with ⟨rfl, _⟩ | ⟨g, cap, cur, rfl, _⟩
      · exact ⟨_, _, _, rfl⟩
      · exact ⟨_, _, _, rfl⟩
    clear hd2 hpk hI hd3 hv1 hv2
    gi_wp2_with (gi_at_builtin; refine wpListIn_append_own _ rfl _ _ 40 rfl wA.heap.size 34 i0 (.agg #[.int .i64 0, .int .i64 0]) 2 16 Tryd.underlying40 HI0.out hz0 hz1 hz2 rfl (by decide) _ _ _ rfl (HV2.out.alloc _) ⟨W.heap.size, 0, none⟩ 1 1 p.cells rfl rfl (news_at W _ p.cells _ rfl) (by simp [Value.oneCell', Nx.cells]) (by unfold maxLen; omega) (by omega) (by simp; omega) ?_; intro v' w3 hown hgrow _; obtain ⟨g', cap', rfl⟩ := ownsRow_succ hown; have HOWN := Lib.hid hown; have HGR := Lib.hid hgrow; have hf3 := (hgrow.block F (by simp; omega) (fun e => by have := (own_of HV2.out e.symm).1; omega)).trans ((Below.heap_alloc W _ F (by omega)).trans HV1.out); have HF3 := Lib.hid hf3; obtain ⟨m0, mf0⟩ := cell_box hf3; clear hown hgrow hf3)
    have hgB := (own_of HOWN.out (g := g') rfl).1
    refine ⟨⟨?_, fun j o hj hl ho => ?_⟩, HGR.out.os.trans HI.out.os, HGR.out.tape.trans HI.out.tape, HGR.out.output.trans HI.out.output, ?_, fun j hj hn => ?_, _, Go.heap_setCell_same w3 F 0 _ _ _ HF3.out, TabS.row_of_block (HTK.out ▸ HOWN.out) (fun g hg => Go.heap_setCell_other _ _ _ _ (by cases hg; show g' ≠ F; omega))⟩
    · have := HGR.out.size; simp at this ⊢; omega
    · have hjW := (Array.getElem?_eq_some_iff.1 hl).1
      rw [Go.heap_setCell_other _ _ _ _ (by show j ≠ F; omega), HGR.out.block j (by simp; omega) (fun e => by
        obtain ⟨_, cur, hc⟩ := own_of HV2.out e.symm
        rw [hc] at hl
        cases hl
        rcases ho with ho | ho
        · simp [Obj.rowOf] at ho
        · exact ho ⟨_, g0, e.symm⟩), Below.heap_alloc _ _ _ hjW]
      exact hl
    · have := HGR.out.size; simp at this ⊢; omega
    · rw [Go.heap_setCell_other _ _ _ _ (by show j ≠ F; omega), HGR.out.block j (by simp; omega) (fun e => by have := (own_of HV2.out e.symm).1; omega), Below.heap_alloc _ _ _ (by omega)]
      exact HI.out.keep j hj hn
  case hdone =>
    intro D W hD hI hdef
    have HBE := Lib.hid (HWB.out _ W hI)
    obtain ⟨v, hv1, hv2⟩ := hI.row
    obtain ⟨g0, gf0⟩ := cell_box hv1
    rw [List.take_length] at hv2
    have HV2 := Lib.hid hv2
    have HDF := Lib.hid hdef
    have hsB := HBwA.out.size
    clear hI hv1 hv2 hdef
    gi_wp2
    refine ⟨by simp, .inl ⟨_, _, rfl, run_takeDeferred HDF.out, ?_⟩⟩
    have hb9 := HBE.out
    refine ⟨v, by simp [results, Tryd.results12, go_sem], v, rfl, by rw [← HP.out]; exact TabS.row_of_block (own_weak HV2.out hsB) (fun g hg => World.putObj_heap_other (fun e => by obtain ⟨_, cur, hc⟩ := own_of HV2.out hg; rw [e] at hc; rw [HDF.out] at hc; cases hc)), ⟨hb9.os, hb9.tape, hb9.output, by simpa [World.putObj] using hb9.size, fun k hk => (World.putObj_heap_other (by omega)).trans (hb9.block k hk)⟩⟩
  case hstop =>
    rintro D c' k W hD hkN h
    exact h.elim
end LkS
end
/- LookupLast. -/
section
set_option linter.unusedVariables false
set_option linter.unusedSimpArgs false
open Go.ChangeShapes Go.WideShapes Go.ChangeAt Go.RowKit Go.Shelf

namespace LkS
open TabS (Cp Sn zC mayC sizS getR Two Pr SlotsAt SameS)
/-- The slots that are gone through, of anything. -/
def pathR (L : List Sn) (O : List Ob) (c : Cp) (a : Nat) (d : Int) : List Nx := if chkN a d = 0 then pathP L O a d.toNat c d.toNat else []
theorem pathR_len {L : List Sn} {O : List Ob} {c : Cp} {a : Nat} {d : Int} (hR : Rad O) : (pathR L O c a d).length ≤ 12 := by
  unfold pathR
  split
  · rename_i hk
    have : d ≤ 12 := by
      unfold chkN at hk
      split at hk
      · cases hk
      · omega
    have := pathP_len (L := L) (a := a) hR d.toNat c d.toNat
    omega
  · exact Nat.zero_le _
theorem resR_path (L : List Sn) (O : List Ob) (c : Cp) (a : Nat) (d : Int) : ((resR L O c a d).2.2 = 0 ∧ ∃ p, (pathR L O c a d).getLast? = some p ∧ (resR L O c a d).1 = p.n ∧ (resR L O c a d).2.1 = (p.i : Int)) ∨ ((resR L O c a d).2.2 ≠ 0 ∧ (resR L O c a d).1 = 0 ∧ (resR L O c a d).2.1 = 0) := by
  unfold resR pathR
  by_cases hk : chkN a d = 0
  · rw [if_pos hk, if_pos hk]
    cases hr : resP (pathP L O a d.toNat c d.toNat) with
    | none => exact .inr ⟨by decide, rfl, rfl⟩
    | some p =>
      refine .inl ⟨rfl, p, ?_, rfl, rfl⟩
      unfold resP at hr
      cases hl : (pathP L O a d.toNat c d.toNat).getLast? with
      | none => rw [hl] at hr; cases hr
      | some q =>
        rw [hl] at hr
        simp only [] at hr
        split at hr
        · exact hr
        · cases hr
  · rw [if_neg hk]
    exact .inr ⟨hk, rfl, rfl⟩
theorem path_any (w : World) (sb b : Nat) (L : List Sn) (O : List Ob) (c : Cp) (a : Nat) (d : Int) (h : Sees w sb b L O) (hR : Rad O) (hC : CapsOk L) (he : c.e ≤ 9223372036854775807) (ha : a < 2 ^ 64) :
    Calls Tryd.prog 12 #[.pointer (some ⟨sb, 0, none⟩), .pointer (some ⟨b, 0, none⟩), c.V, .int .u64 a, .int .i64 d] w fun e w' => ∃ v, e = .returned v ∧ w'.ownsRow w.heap.size 34 2 v (pathR L O c a d).length (slC (pathR L O c a d)) ∧ Below w.heap.size w w' := by
  unfold pathR
  by_cases hk : chkN a d = 0
  · rw [if_pos hk]
    have h12 : 1 ≤ d ∧ d ≤ 12 := by
      unfold chkN at hk
      split at hk
      · cases hk
      · omega
    obtain ⟨n, rfl⟩ : ∃ n : Nat, d = n := ⟨d.toNat, by omega⟩
    rw [show ((n : Int)).toNat = n by simp]
    exact callsIn_wide.1 (path_in w sb b L O c a n h hR hC he ha (by omega) hk)
  · rw [if_neg hk]
    refine (path_code w _ _ c a d _ hk (fun v hb => check_any v sb b a d (h.call hb).tg ha)).mono ?_
    rintro e w' ⟨rfl, hb⟩
    exact ⟨_, rfl, World.ownsRow_nil _ _ _ _, hb⟩
theorem pathR_same {L M : List Sn} (h : SameS L M) (O : List Ob) (c : Cp) (a : Nat) (d : Int) : pathR L O c a d = pathR M O c a d := by
  unfold pathR
  rw [pathP_same h]
theorem RmP.path {W w : World} {sb srb b rb : Nat} {L0 M0 : List Sn} (h : RmP W w sb srb b rb L0 M0) (hT : CX.TabG W) (hC : CapsOk L0) (c : Cp) (a : Nat) (d : Int) (he : c.e ≤ 9223372036854775807) (ha : a < 2 ^ 64) :
    Calls Tryd.prog 12 #[.pointer (some ⟨sb, 0, none⟩), .pointer (some ⟨b, 0, none⟩), c.V, .int .u64 a, .int .i64 d] w fun e w' => ∃ v, e = .returned v ∧ w'.ownsRow w.heap.size 34 2 v (pathR L0 (stO 5).2 c a d).length (slC (pathR L0 (stO 5).2 c a d)) ∧ Below w.heap.size w w' := by
  obtain ⟨L, hs, hl⟩ := h.sees hT
  rw [← pathR_same hl]
  exact path_any w sb b L _ c a d hs rad5 (capsOk_same hl hC) he ha
/-- A row of slots, as its cells are. -/
theorem slC_get : ∀ {P : List Nx} {k j : Nat} {p : Nx} {u : Value}, P[k]? = some p → p.cells[j]? = some u → (slC P)[k * 2 + j]? = some u
  | [], k, j, p, u, h, _ => by simp at h
  | x :: P, 0, j, p, u, h, hj => by
    simp at h
    subst h
    have e : slC (x :: P) = x.cells ++ slC P := rfl
    have hl : x.cells.length = 2 := rfl
    rw [e, List.getElem?_append_left (by have := (List.getElem?_eq_some_iff.1 hj).1; omega)]
    simpa using hj
  | x :: P, k + 1, j, p, u, h, hj => by
    have e : slC (x :: P) = x.cells ++ slC P := rfl
    have hl : x.cells.length = 2 := rfl
    rw [e, List.getElem?_append_right (by omega), hl, show (k + 1) * 2 + j - 2 = k * 2 + j by omega]
    exact slC_get (by simpa using h) hj
/-- Such a row, opened: nil, or a block. -/
theorem row_form {w : World} {base n : Nat} {v : Value} {P : List Nx} (h : w.ownsRow base 34 2 v n (slC P)) (hn : n = P.length) : ∃ ra rc, v = .slice ra n rc ∧ n ≤ rc ∧ ∀ k p, P[k]? = some p → ∃ g, ra = some ⟨g, 0, none⟩ ∧ base ≤ g ∧ g < w.heap.size ∧ w.cell? ⟨g, k * 2, none⟩ = some (.int .i64 p.n) ∧ w.cell? ⟨g, k * 2 + 1, none⟩ = some (.int .i64 (p.i : Int)) := by
  have hlt := h.lt
  have hcs := fun g hg => h.cells (g := g) hg
  rcases h.2 with ⟨rfl, h0⟩ | ⟨g, cap, cur, rfl, q1, q2, q3, q4, q5, q6⟩
  · refine ⟨none, 0, by rw [h0], by omega, fun k p hk => ?_⟩
    have := (List.getElem?_eq_some_iff.1 hk).1
    omega
  · refine ⟨_, _, rfl, q3, fun k p hk => ⟨g, rfl, (hlt g rfl).1, (hlt g rfl).2, ?_, ?_⟩⟩
    · have := hcs g rfl _ _ (slC_get hk (j := 0) (u := .int .i64 p.n) rfl)
      rwa [Addr.add_mid, Nat.zero_add, Nat.add_zero] at this
    · have := hcs g rfl _ _ (slC_get hk (j := 1) (u := .int .i64 (p.i : Int)) rfl)
      rwa [Addr.add_mid, Nat.zero_add] at this
end LkS
end
/- chapter 16: the laws' arguments. -/
section
set_option linter.unusedVariables false
set_option linter.unusedSimpArgs false
open Go.ChangeShapes Go.WideShapes Go.ChangeAt Go.RowKit Go.Shelf

set_option maxRecDepth 100000 in
theorem open_t25 {W : World} {base : Nat} {v : Value} (hv : Value.okWide Tryd.prog W .any base 25 v) : ∃ x : TabS.Cp, v = x.V ∧ TabS.InS x.e := by
  obtain ⟨cs, rfl, hl, hc⟩ := agg_cells (ts := [3, 3, 3, 23, 3, 3, 3, 3]) Tryd.underlying25 (by kernel_rfl) (by kernel_rfl) hv
  obtain ⟨v0, e0, o0⟩ := hc 0 _ rfl
  obtain ⟨a, rfl, b0⟩ := cell_i64 Tryd.underlying3 o0
  obtain ⟨v1, e1, o1⟩ := hc 1 _ rfl
  obtain ⟨b, rfl, b1⟩ := cell_i64 Tryd.underlying3 o1
  obtain ⟨v2, e2, o2⟩ := hc 2 _ rfl
  obtain ⟨c, rfl, b2⟩ := cell_i64 Tryd.underlying3 o2
  obtain ⟨v3, e3, o3⟩ := hc 3 _ rfl
  obtain ⟨d, rfl, b3⟩ := cell_u64 Tryd.underlying23 o3
  obtain ⟨v4, e4, o4⟩ := hc 4 _ rfl
  obtain ⟨e, rfl, b4⟩ := cell_i64 Tryd.underlying3 o4
  obtain ⟨v5, e5, o5⟩ := hc 5 _ rfl
  obtain ⟨f, rfl, b5⟩ := cell_i64 Tryd.underlying3 o5
  obtain ⟨v6, e6, o6⟩ := hc 6 _ rfl
  obtain ⟨g, rfl, b6⟩ := cell_i64 Tryd.underlying3 o6
  obtain ⟨v7, e7, o7⟩ := hc 7 _ rfl
  obtain ⟨h, rfl, b7⟩ := cell_i64 Tryd.underlying3 o7
  match cs, hl with
  | [x0, x1, x2, x3, x4, x5, x6, x7], _ =>
    cases e0
    cases e1
    cases e2
    cases e3
    cases e4
    cases e5
    cases e6
    cases e7
    exact ⟨⟨a, b, c, d, e, f, g, h⟩, rfl, b4⟩
abbrev zval_t25 : Value := .agg #[.int .i64 0, .int .i64 0, .int .i64 0, .int .u64 0, .int .i64 0, .int .i64 0, .int .i64 0, .int .i64 0]
abbrev zdat_t25 {H : Type} : DataW H := .agg [.lit (.int .i64 0), .lit (.int .i64 0), .lit (.int .i64 0), .lit (.int .u64 0), .lit (.int .i64 0), .lit (.int .i64 0), .lit (.int .i64 0), .lit (.int .i64 0)]

theorem u64_in {n : Int} (h : (Lit.int .u64 n).wf = true) : ∃ a : Nat, n = a ∧ a < 2 ^ 64 := by
  have e1 : IntKind.u64.min = 0 := rfl
  have e2 : IntKind.u64.max = 18446744073709551615 := rfl
  simp [Lit.wf, e1, e2] at h
  exact ⟨n.toNat, by omega, by omega⟩
set_option maxRecDepth 100000 in
theorem open_s22 {H : Type} {enc : TypeId × Value → H} {W : World} {base : Nat} {v : Value} {d : DataW H} {ps : List MemPlace} (hval : Value.okWide Tryd.prog W .any base 22 v) (hd : DataW.Trod enc Tryd.prog W 0 (fun _ => true) true 22 v d ps) :
    ∃ p n c, v = .slice p n c ∧ n ≤ c ∧ c ≤ maxLen ∧ ∃ D, LkS.PutsAt W p n D := by
  obtain ⟨p, n, c, rfl, h1, h2, b, off, h3, h4⟩ := open_rows (C := 10) Tryd.underlying22 (by kernel_rfl) (by kernel_rfl) (by decide) hval hd
  refine ⟨p, n, c, rfl, h1, h2, fun k => ⟨intAt W b (off + (k * 10 + 0)), intAt W b (off + (k * 10 + 1)), ⟨intAt W b (off + (k * 10 + 2)), intAt W b (off + (k * 10 + 3)), intAt W b (off + (k * 10 + 4)), intAt W b (off + (k * 10 + 5)), intAt W b (off + (k * 10 + 6)), intAt W b (off + (k * 10 + 7)), intAt W b (off + (k * 10 + 8)), intAt W b (off + (k * 10 + 9))⟩⟩, b, off, h3, fun k hk => ?_⟩
  obtain ⟨c0, o0⟩ := h4 k hk 0 (.i .i64) (by kernel_rfl)
  obtain ⟨c1, o1⟩ := h4 k hk 1 (.i .i64) (by kernel_rfl)
  obtain ⟨c2, o2⟩ := h4 k hk 2 (.i .i64) (by kernel_rfl)
  obtain ⟨c3, o3⟩ := h4 k hk 3 (.i .i64) (by kernel_rfl)
  obtain ⟨c4, o4⟩ := h4 k hk 4 (.i .i64) (by kernel_rfl)
  obtain ⟨c5, o5⟩ := h4 k hk 5 (.i .u64) (by kernel_rfl)
  obtain ⟨c6, o6⟩ := h4 k hk 6 (.i .i64) (by kernel_rfl)
  obtain ⟨c7, o7⟩ := h4 k hk 7 (.i .i64) (by kernel_rfl)
  obtain ⟨c8, o8⟩ := h4 k hk 8 (.i .i64) (by kernel_rfl)
  obtain ⟨c9, o9⟩ := h4 k hk 9 (.i .i64) (by kernel_rfl)
  exact ⟨TabS.range_cons c0 (TabS.range_cons c1 (TabS.range_cons c2 (TabS.range_cons c3 (TabS.range_cons c4 (TabS.range_cons c5 (TabS.range_cons c6 (TabS.range_cons c7 (TabS.range_cons c8 (TabS.range_cons c9 (TabS.range_nil _ _ _)))))))))), (TabS.wf_S o6).2⟩
end
/- chapter 16's own answer: take; what it leans on. -/
section
set_option linter.unusedVariables false
set_option linter.unusedSimpArgs false
open Go.ChangeShapes Go.WideShapes Go.ChangeAt Go.RowKit Go.Shelf

namespace LkS
open TabS (Cp Sn zC mayC sizS getR Two Pr SlotsAt RefS rowsS hasS)
theorem takeN_zero (a l : Nat) : takeN a l 0 = 0 := by unfold takeN; simp [Nat.mod_one]
theorem takeN_lt (a l n : Nat) : takeN a l n < 2 ^ n := Nat.mod_lt _ (Nat.two_pow_pos n)
theorem takeN_succ (a l j : Nat) (h : j < l) : takeN a l (j + 1) = 2 * takeN a l j + a / 2 ^ (l - 1 - j) % 2 := by
  unfold takeN
  have e1 : l - (j + 1) = l - 1 - j := by omega
  have e2 : a / 2 ^ (l - j) = a / 2 ^ (l - 1 - j) / 2 := by
    rw [Nat.div_div_eq_div_mul, ← Nat.pow_succ, show (l - 1 - j).succ = l - j by omega]
  rw [e1, e2]
  generalize a / 2 ^ (l - 1 - j) = x
  rw [Nat.pow_succ, Nat.mul_comm, Nat.mod_mul]
  omega
theorem bit_one {a : Nat} (ha : a < 18446744073709551616) (k : Nat) : bits BinOp.and IntKind.u64 ((a : Int) / 2 ^ k) 1 = ((a / 2 ^ k % 2 : Nat) : Int) := by
  have e : (a : Int) / 2 ^ k = ((a / 2 ^ k : Nat) : Int) := by simp
  have hlt : a / 2 ^ k < 18446744073709551616 := Nat.lt_of_le_of_lt (Nat.div_le_self _ _) ha
  rw [e]
  have h := and_ones (a / 2 ^ k) 1 hlt (by decide) (by decide)
  rw [show onesN 1 = 1 by decide] at h
  rw [h]
  rfl
set_option maxRecDepth 100000 in
set_option maxHeartbeats 1000000 in
theorem take_any (w : World) (a l n : Nat) (ha : a < 2 ^ 64) (hl : l ≤ 12) (hn : n ≤ l) :
    Calls Tryd.prog 31 #[.int .u64 a, .int .i64 l, .int .i64 n] w fun e w' => e = .returned (.int .i64 (takeN a l n)) ∧ w = w' := by
  go_enter Tryd.func31, Tryd.ntmps31
  go_wp2
  go_loopw [7, 8] (fun v i wr => ∃ j : Nat, j ≤ n ∧ v = .int .i64 (takeN a l j : Nat) ∧ i = .int .i64 ((l : Int) - 1 - j) ∧ wr = w) (fun _ i _ => (intOf i + 1).toNat)
  case atStart => exact ⟨0, by omega, by rw [takeN_zero]; rfl, by first | rfl | go_num | (congr 1; omega), rfl⟩
  case round =>
    obtain ⟨j, hj, rfl, rfl, rfl⟩ := hrel
    by_cases hjn : j = n
    · subst hjn
      have h1 : ¬ ((l : Int) - 1 - j ≥ (l : Int) - j) := by omega
      go_wp2
      go_ret
      exact ⟨rfl, by trivial⟩
    · obtain ⟨k, rfl⟩ : ∃ k, l = j + 1 + k := ⟨l - (j + 1), by omega⟩
      have e0 : ((j + 1 + k : Nat) : Int) - 1 - j = (k : Int) := by omega
      have e1 : takeN a (j + 1 + k) (j + 1) = 2 * takeN a (j + 1 + k) j + a / 2 ^ k % 2 := by
        have := takeN_succ a (j + 1 + k) j (by omega)
        rwa [show j + 1 + k - 1 - j = k by omega] at this
      have hlt : takeN a (j + 1 + k) j < 4096 := Nat.lt_of_lt_of_le (takeN_lt _ _ _) (show 2 ^ j ≤ 2 ^ 12 from Nat.pow_le_pow_right (by decide) (by omega))
      have h1 : ((j + 1 + k : Nat) : Int) - n ≤ (k : Int) := by omega
      have hb := bit_one (a := a) ha k
      have E1 := Lib.hid e1
      have HJ : Hid (j < n) := Lib.hid (by omega)
      rw [e0]
      clear e0 e1
      generalize takeN a (j + 1 + k) j = x at *
      go_wp2
      go_roundw
      case rel => exact ⟨j + 1, HJ.out, by rw [E1.out]; simp, by first | go_num | (congr 1; omega), by trivial⟩
      case measure => first | (simp [intOf]; done) | (simp [intOf]; omega)
/-- What the own answer's reading calls lean on. -/
structure SeesR (w : World) (sb b : Nat) (M : List Sn) (O : List Ob) : Prop where
  sl : ∃ base v, RefS w sb base v M
  sa : Asc (rowsS M)
  sn : M.length < 1000000
  ar : ∃ base F v G, RefA w b base F v O G
  aa : Asc (rowsO O)
  an : O.length < 1000000
theorem SeesR.call {w w' : World} {sb b : Nat} {M : List Sn} {O : List Ob} (h : SeesR w sb b M O) (hb : Below w.heap.size w w') : SeesR w' sb b M O := by
  obtain ⟨⟨base, v, h1⟩, h2, h3, ⟨base', F, v', G, h4⟩, h5, h6⟩ := h
  exact ⟨⟨base, v, h1.call hb⟩, h2, h3, ⟨base', F, v', G, h4.call hb⟩, h5, h6⟩
theorem SeesR.get {w : World} {sb b : Nat} {M : List Sn} {O : List Ob} (h : SeesR w sb b M O) (id ix : Int) :
    Calls Tryd.prog 33 #[.pointer (some ⟨sb, 0, none⟩), .agg #[.int .i64 id, .int .i64 ix]] w fun e w' => e = .returned (.tuple #[((getR M id ix).getD zC).V, .int .i64 (TabS.getN (getR M id ix))]) ∧ Below w.heap.size w w' := by
  obtain ⟨base, v, hT⟩ := h.sl
  rcases TabS.slot_orR h.sa id ix with ⟨hn, e⟩ | ⟨x, i, c, hF, rfl, hc, e⟩
  · rw [e]
    exact TabS.rget_no w sb base v M id ix hT h.sn hn
  · rw [e]
    exact TabS.rget_yes w sb base v M id i _ x c hT h.sn hF hc
theorem SeesR.has {w : World} {sb b : Nat} {M : List Sn} {O : List Ob} (h : SeesR w sb b M O) (id ix : Int) :
    Calls Tryd.prog 32 #[.pointer (some ⟨sb, 0, none⟩), .agg #[.int .i64 id, .int .i64 ix]] w fun e w' => e = .returned (.bool (getR M id ix).isSome) ∧ Below w.heap.size w w' := by
  obtain ⟨base, v, hT⟩ := h.sl
  rcases TabS.slot_orR h.sa id ix with ⟨hn, e⟩ | ⟨x, i, c, hF, rfl, hc, e⟩
  · rw [e]
    exact TabS.rhas_no w sb base v M id ix hT h.sn hn
  · rw [e]
    exact TabS.rhas_yes w sb base v M id i _ x hT h.sn hF (List.getElem?_eq_some_iff.1 hc).1
theorem SeesR.obj {w : World} {sb b : Nat} {M : List Sn} {O : List Ob} (h : SeesR w sb b M O) (id : Int) :
    Calls Tryd.prog 29 #[.pointer (some ⟨b, 0, none⟩), .int .i64 id] w fun e w' => e = .returned (.tuple #[obD (getO O id), .bool (getO O id).isSome]) ∧ Below w.heap.size w w' := by
  obtain ⟨base, F, v, G, hA⟩ := h.ar
  exact rget_any w b base F v O G id hA h.aa h.an
theorem rmay (w : World) (c : Cp) :
    Calls Tryd.prog 30 #[c.V] w fun e w' => e = .returned (.bool (mayC c)) ∧ Below w.heap.size w w' := CX.refMay13 c.a c.b c.c c.d c.e c.f c.g c.h w
/-- A slot is there if its index lies below the size. -/
theorem getR_some {M : List Sn} {id : Int} {i : Nat} : (getR M id i).isSome = true ↔ (i : Int) < sizS M id := by
  unfold TabS.getR TabS.sizS
  by_cases hh : hasS M id = true
  · rw [if_pos ⟨hh, by omega⟩, if_pos hh]
    cases hx : M[TabS.posS M id]? with
    | none => simp
    | some x => simp
  · rw [if_neg (fun e => hh e.1), if_neg hh]
    simp
end LkS
end
/- chapter 16's own answer: Path. -/
section
set_option linter.unusedVariables false
set_option linter.unusedSimpArgs false
open Go.ChangeShapes Go.WideShapes Go.ChangeAt Go.RowKit Go.Shelf

namespace LkS
open TabS (Cp Sn zC mayC sizS getR Two Pr SlotsAt RefS rowsS hasS)
/-- What the own answer's Path says beside its slots. -/
def codP (P : List Nx) : Int := match resP P with | some _ => 0 | none => 12
def codR (L : List Sn) (O : List Ob) (c : Cp) (a : Nat) (d : Int) : Int := if chkN a d = 0 then codP (pathP L O a d.toNat c d.toNat) else 3
theorem row_call {w w' : World} {base n : Nat} {v : Value} {xs : List Value} (h : w.ownsRow base 34 2 v n xs) (hb : Below w.heap.size w w') : w'.ownsRow base 34 2 v n xs :=
  TabS.row_of_block h (fun g hg => by
    obtain ⟨_, cur, q⟩ := own_of h hg
    exact hb.block g (Array.getElem?_eq_some_iff.1 q).1)
/-- A round's state: the row so far, the capability in its box, the bits that are left. -/
structure RpS (w : World) (B : Nat) (M : List Sn) (O : List Ob) (a d : Nat) (P : List Nx) (k : Nat) (cc : Cp) (rest : Nat) (v : Value) (wr : World) : Prop where
  bl : Below B w wr
  bx : wr.heap[B + 1]? = some (.cells cc.L.toArray 25 (0, 0))
  row : wr.ownsRow (B + 2) 34 2 v k (slC (P.take k))
  kp : k ≤ P.length
  rd : rest ≤ d
  at' : ∃ f, rest ≤ f ∧ P.drop k = pathP M O a f cc rest
  ls : (k = 0 ∧ rest = d) ∨ ∃ j p, k = j + 1 ∧ P[j]? = some p ∧ p.l = rest
theorem RpS.all {w wr : World} {B : Nat} {M : List Sn} {O : List Ob} {a d : Nat} {P : List Nx} {k : Nat} {cc : Cp} {rest : Nat} {v : Value} (h : RpS w B M O a d P k cc rest v wr) (hs : rest = 0 ∨ stepP M O cc a rest = none) : k = P.length := by
  obtain ⟨f, hf, hd⟩ := h.at'
  rw [pathP_stop hs] at hd
  have := congrArg List.length hd
  simp at this
  have := h.kp
  omega
theorem RpS.code {w wr : World} {B : Nat} {M : List Sn} {O : List Ob} {a d : Nat} {P : List Nx} {k : Nat} {cc : Cp} {rest : Nat} {v : Value} (h : RpS w B M O a d P k cc rest v wr) (hs : rest = 0 ∨ stepP M O cc a rest = none) (hd : 1 ≤ d) : codP P = if rest = 0 then 0 else 12 := by
  have hk := h.all hs
  rcases h.ls with ⟨rfl, rfl⟩ | ⟨j, p, rfl, hp, rfl⟩
  · have : P = [] := List.length_eq_zero_iff.1 hk.symm
    subst this
    rw [if_neg (by omega)]
    rfl
  · have hl : P.getLast? = some p := by rw [List.getLast?_eq_getElem?, ← hk]; exact hp
    unfold codP resP
    rw [hl]
    simp only []
    split
    · rename_i h1
      split at h1
      · rename_i h2; rw [if_pos h2]
      · cases h1
    · rename_i h1
      split at h1
      · cases h1
      · rename_i h2; rw [if_neg h2]
theorem RpS.fin {w wr w' : World} {M : List Sn} {O : List Ob} {a d : Nat} {P : List Nx} {k : Nat} {cc : Cp} {rest : Nat} {v : Value} (h : RpS w w.heap.size M O a d P k cc rest v wr) (hs : rest = 0 ∨ stepP M O cc a rest = none) (hb : Below wr.heap.size wr w') : w'.ownsRow w.heap.size 34 2 v P.length (slC P) ∧ Below w.heap.size w w' := by
  have hk := h.all hs
  have hr := h.row
  subst hk
  rw [List.take_length] at hr
  exact ⟨own_weak (row_call hr hb) (by omega), h.bl.trans (hb.mono h.bl.size)⟩
theorem RpS.next {w wr : World} {B : Nat} {M : List Sn} {O : List Ob} {a d : Nat} {P : List Nx} {k : Nat} {cc : Cp} {rest : Nat} {v : Value} {p : Nx} (h : RpS w B M O a d P k cc rest v wr) (h0 : rest ≠ 0) (hs : stepP M O cc a rest = some p) (hR : Rad O) : P[k]? = some p ∧ k + 1 ≤ P.length ∧ p.l ≤ rest ∧ ∃ f, p.l ≤ f ∧ P.drop (k + 1) = pathP M O a f (capN M p) p.l := by
  obtain ⟨f, hf, hd⟩ := h.at'
  obtain ⟨f', hf', e⟩ := pathP_go hf h0 hs hR
  rw [e] at hd
  have h1 : P[k]? = some p := by
    have := congrArg (fun l => l[0]?) hd
    simpa using this
  refine ⟨h1, (List.getElem?_eq_some_iff.1 h1).1, Nat.le_of_lt (stepP_lt hR hs).1, f', hf', ?_⟩
  have := congrArg (fun l => l.drop 1) hd
  simpa using this
theorem RpS.step {w wr w' : World} {B : Nat} {M : List Sn} {O : List Ob} {a d : Nat} {P : List Nx} {k : Nat} {cc nc : Cp} {rest : Nat} {v v' : Value} {p : Nx} (h : RpS w B M O a d P k cc rest v wr) (hn : P[k]? = some p ∧ k + 1 ≤ P.length ∧ p.l ≤ rest ∧ ∃ f, p.l ≤ f ∧ P.drop (k + 1) = pathP M O a f (capN M p) p.l) (hc : nc = capN M p) (hb : Below B w w') (hx : w'.heap[B + 1]? = some (.cells nc.L.toArray 25 (0, 0))) (hr : w'.ownsRow (B + 2) 34 2 v' (k + 1) (slC (P.take k) ++ p.cells)) : RpS w B M O a d P (k + 1) nc p.l v' w' :=
  ⟨hb, hx, by
    have e : slC (P.take (k + 1)) = slC (P.take k) ++ p.cells := by rw [List.take_add_one, hn.1]; exact slC_snoc _ _
    rw [e]; exact hr, hn.2.1, Nat.le_trans hn.2.2.1 h.rd, hc ▸ hn.2.2.2, .inr ⟨k, p, rfl, hn.1, rfl⟩⟩
theorem cap_froz {w : World} {k : Nat} {xs : Array Value} {t : TypeId} (h : w.heap[k]? = some (.cells xs t (0, 0))) : w.frozen? ⟨k, 0, none⟩ = false ∧ w.frozen? ⟨k, 1, none⟩ = false ∧ w.frozen? ⟨k, 2, none⟩ = false ∧ w.frozen? ⟨k, 3, none⟩ = false ∧ w.frozen? ⟨k, 4, none⟩ = false ∧ w.frozen? ⟨k, 5, none⟩ = false ∧ w.frozen? ⟨k, 6, none⟩ = false ∧ w.frozen? ⟨k, 7, none⟩ = false :=
  ⟨by simp [World.frozen?, h], by simp [World.frozen?, h], by simp [World.frozen?, h], by simp [World.frozen?, h], by simp [World.frozen?, h], by simp [World.frozen?, h], by simp [World.frozen?, h], by simp [World.frozen?, h]⟩
/-- A capability laid over another one. -/
def lay8 (w : World) (k : Nat) (n : Cp) : World := (((((((w.setCell ⟨k, 0, none⟩ (.int .i64 n.a)).setCell ⟨k, 1, none⟩ (.int .i64 n.b)).setCell ⟨k, 2, none⟩ (.int .i64 n.c)).setCell ⟨k, 3, none⟩ (.int .u64 n.d)).setCell ⟨k, 4, none⟩ (.int .i64 n.e)).setCell ⟨k, 5, none⟩ (.int .i64 n.f)).setCell ⟨k, 6, none⟩ (.int .i64 n.g)).setCell ⟨k, 7, none⟩ (.int .i64 n.h)
theorem set_step {w : World} {k : Nat} {l : List Value} {t : TypeId} (i : Nat) (v : Value) (h : w.heap[k]? = some (.cells l.toArray t (0, 0))) : (w.setCell ⟨k, i, none⟩ v).heap[k]? = some (.cells (l.set i v).toArray t (0, 0)) := by
  rw [Go.heap_setCell_same _ k i _ t v h]
  simp
theorem lay8_same {w : World} {k : Nat} {c : Cp} {t : TypeId} (n : Cp) (h : w.heap[k]? = some (.cells c.L.toArray t (0, 0))) : (lay8 w k n).heap[k]? = some (.cells n.L.toArray t (0, 0)) := by
  have e : (((((((c.L.set 0 (.int .i64 n.a)).set 1 (.int .i64 n.b)).set 2 (.int .i64 n.c)).set 3 (.int .u64 n.d)).set 4 (.int .i64 n.e)).set 5 (.int .i64 n.f)).set 6 (.int .i64 n.g)).set 7 (.int .i64 n.h) = n.L := rfl
  rw [← e]
  unfold lay8
  exact set_step 7 _ (set_step 6 _ (set_step 5 _ (set_step 4 _ (set_step 3 _ (set_step 2 _ (set_step 1 _ (set_step 0 _ h)))))))
theorem lay8_other {w : World} {k j : Nat} (n : Cp) (h : j ≠ k) : (lay8 w k n).heap[j]? = w.heap[j]? := by
  unfold lay8
  iterate 8 rw [Go.heap_setCell_other _ _ _ _ h]
theorem lay8_below {w0 w : World} {B k : Nat} (n : Cp) (h : Below B w0 w) (hk : B ≤ k) : Below B w0 (lay8 w k n) :=
  (((((((h.setCell (p := ⟨k, 0, none⟩) hk _).setCell (p := ⟨k, 1, none⟩) hk _).setCell (p := ⟨k, 2, none⟩) hk _).setCell (p := ⟨k, 3, none⟩) hk _).setCell (p := ⟨k, 4, none⟩) hk _).setCell (p := ⟨k, 5, none⟩) hk _).setCell (p := ⟨k, 6, none⟩) hk _).setCell (p := ⟨k, 7, none⟩) hk _
theorem RpS.step9 {w wr w9 : World} {M : List Sn} {O : List Ob} {a d : Nat} {P : List Nx} {k : Nat} {cc nc : Cp} {rest : Nat} {v v' : Value} {p : Nx} (h : RpS w w.heap.size M O a d P k cc rest v wr) (hn : P[k]? = some p ∧ k + 1 ≤ P.length ∧ p.l ≤ rest ∧ ∃ f, p.l ≤ f ∧ P.drop (k + 1) = pathP M O a f (capN M p) p.l) (hc : nc = capN M p) (hb : Below w.heap.size w w9) (hx : w9.heap[w.heap.size + 1]? = some (.cells cc.L.toArray 25 (0, 0))) (hr : w9.ownsRow (w.heap.size + 2) 34 2 v' (k + 1) (slC (P.take k) ++ p.cells)) : RpS w w.heap.size M O a d P (k + 1) nc p.l v' (lay8 w9 (w.heap.size + 1) nc) :=
  h.step hn hc (lay8_below nc hb (by omega)) (lay8_same nc hx) (TabS.row_of_block hr (fun g hg => lay8_other _ (by
    have := (own_of hr hg).1
    omega)))
theorem obc_kd {w : World} {k : Nat} {a b c d e f g h i : Int} (q : w.heap[k]? = some (.cells #[.int .i64 a, .int .i64 b, .int .i64 c, .int .i64 d, .int .i64 e, .int .i64 f, .int .i64 g, .int .i64 h, .int .i64 i] 84 (0, 0))) : w.cell? ⟨k, 1, none⟩ = some (.int .i64 b) := cell_cur (cur := [.int .i64 a, .int .i64 b, .int .i64 c, .int .i64 d, .int .i64 e, .int .i64 f, .int .i64 g, .int .i64 h, .int .i64 i]) q 1
theorem obc_sz {w : World} {k : Nat} {a b c d e f g h i : Int} (q : w.heap[k]? = some (.cells #[.int .i64 a, .int .i64 b, .int .i64 c, .int .i64 d, .int .i64 e, .int .i64 f, .int .i64 g, .int .i64 h, .int .i64 i] 84 (0, 0))) : w.cell? ⟨k, 2, none⟩ = some (.int .i64 c) := cell_cur (cur := [.int .i64 a, .int .i64 b, .int .i64 c, .int .i64 d, .int .i64 e, .int .i64 f, .int .i64 g, .int .i64 h, .int .i64 i]) q 2
set_option maxRecDepth 100000 in
set_option maxHeartbeats 2000000 in
theorem rpath_in (w : World) (sb b : Nat) (M : List Sn) (O : List Ob) (c : Cp) (a d : Nat) (h : SeesR w sb b M O) (hR : Rad O) (ha : a < 2 ^ 64) (hd : d ≤ 12) (hd1 : 1 ≤ d) (hk : a < 2 ^ d) :
    Calls Tryd.prog 13 #[.pointer (some ⟨sb, 0, none⟩), .pointer (some ⟨b, 0, none⟩), c.V, .int .u64 a, .int .i64 d] w fun e w' => ∃ v, e = .returned (.tuple #[v, .int .i64 (codP (pathP M O a d c d))]) ∧ w'.ownsRow w.heap.size 34 2 v (pathP M O a d c d).length (slC (pathP M O a d c d)) ∧ Below w.heap.size w w' := by
  obtain ⟨i0, hi0, hz0, hz1, hz2⟩ := info_parts infoSlo
  have HI0 := Lib.hid hi0
  clear hi0
  obtain ⟨P, hP⟩ : ∃ P, P = pathP M O a d c d := ⟨_, rfl⟩
  rw [← hP]
  have HP := Lib.hid hP
  have HPL : Hid (P.length ≤ 12) := Lib.hid (by rw [hP]; exact Nat.le_trans (pathP_len hR d c d) hd)
  have HS := Lib.hid h
  have HA := Lib.hid ha
  have HR := Lib.hid hR
  have hsh : ¬ ((a : Int) / 2 ^ d ≠ 0) := by
    have : (a : Int) / 2 ^ d = ((a / 2 ^ d : Nat) : Int) := by simp
    rw [this, Nat.div_eq_of_lt hk]
    simp
  have hsh2 : (a : Int) / 2 ^ d = 0 := by simpa using hsh
  have h1 : ¬ (d : Int) < 1 := by omega
  have h2 : ¬ (d : Int) > 12 := by omega
  clear hP h hR hk
  go_enter Tryd.func13, Tryd.ntmps13
  go_wp2
  have hbx : (((w.alloc (.cells #[.int .i64 c.a, .int .i64 c.b, .int .i64 c.c, .int .u64 c.d, .int .i64 c.e, .int .i64 c.f, .int .i64 c.g, .int .i64 c.h] 25)).alloc (.cells #[.int .i64 c.a, .int .i64 c.b, .int .i64 c.c, .int .u64 c.d, .int .i64 c.e, .int .i64 c.f, .int .i64 c.g, .int .i64 c.h] 25))).heap[w.heap.size + 1]? = some (.cells c.L.toArray 25 (0, 0)) := by
    have := heap_alloc_new (w.alloc (.cells #[.int .i64 c.a, .int .i64 c.b, .int .i64 c.c, .int .u64 c.d, .int .i64 c.e, .int .i64 c.f, .int .i64 c.g, .int .i64 c.h] 25)) (.cells c.L.toArray 25)
    rwa [World.size_alloc] at this
  have hst0 : RpS w w.heap.size M O a d P 0 c d (.slice none 0 0) ((w.alloc (.cells #[.int .i64 c.a, .int .i64 c.b, .int .i64 c.c, .int .u64 c.d, .int .i64 c.e, .int .i64 c.f, .int .i64 c.g, .int .i64 c.h] 25)).alloc (.cells #[.int .i64 c.a, .int .i64 c.b, .int .i64 c.c, .int .u64 c.d, .int .i64 c.e, .int .i64 c.f, .int .i64 c.g, .int .i64 c.h] 25)) := ⟨bal (bal (Below.refl _ _) _) _, hbx, World.ownsRow_nil _ _ _ _, Nat.zero_le _, Nat.le_refl _, ⟨d, Nat.le_refl _, HP.out⟩, .inl ⟨rfl, rfl⟩⟩
  have HST0 := Lib.hid hst0
  clear hbx hst0 hsh hsh2 h1 h2
  go_loopw [12, 14] (fun v t wr => ∃ (k : Nat) (cc : Cp) (rest : Nat), t = .int .i64 rest ∧ Hid (RpS w w.heap.size M O a d P k cc rest v wr)) (fun _ t _ => (intOf t).toNat)
  case atStart => exact ⟨0, c, d, rfl, HST0⟩
  case round =>
    obtain ⟨k, cc, rest, rfl, HI⟩ := hrel
    clear HST0
    by_cases h0 : rest = 0
    · have HC := Lib.hid (HI.out.code (.inl h0) hd1)
      rw [if_pos h0] at HC
      have HF := Lib.hid (HI.out.fin (.inl h0) (Below.refl _ _))
      subst h0
      go_wp2
      exact bodyPost_ret (v := .tuple #[u12, .int .i64 0]) (by simp [results, Tryd.results13, go_sem]) rfl ⟨_, by rw [HC.out], HF.out⟩
    · obtain ⟨ca, cb, cx, cd, ce, cf, cg, ch⟩ := cc
      have S1 := Lib.hid (HS.out.call HI.out.bl)
      have hc1 := HI.out.bx
      have HC1 := Lib.hid hc1
      have HLT : Hid (w.heap.size + 1 < wr.heap.size) := Lib.hid (Array.getElem?_eq_some_iff.1 hc1).1
      have HRD : Hid (rest ≤ 12) := Lib.hid (by have := HI.out.rd; omega)
      have h0I : (rest : Int) > 0 := by omega
      have H12 := Lib.hid (fun (hs : stepP M O ⟨ca, cb, cx, cd, ce, cf, cg, ch⟩ a rest = none) => (HI.out.code (.inr hs) hd1).trans (if_neg h0))
      have HF := Lib.hid (fun (hs : stepP M O ⟨ca, cb, cx, cd, ce, cf, cg, ch⟩ a rest = none) (w' : World) (hb : Below wr.heap.size wr w') => HI.out.fin (.inr hs) hb)
      obtain ⟨oo, hoo⟩ : ∃ oo : Option Ob, oo = getO O cb := ⟨_, rfl⟩
      obtain ⟨no, hno⟩ : ∃ y : Ob, y = oo.getD ⟨0, 0, 0, 0, 0, 0, 0, 0, 0⟩ := ⟨_, rfl⟩
      obtain ⟨ok, hok⟩ : ∃ y : Bool, y = oo.isSome := ⟨_, rfl⟩
      have HGO : Hid (Calls Tryd.prog 29 #[.pointer (some ⟨b, 0, none⟩), .int .i64 cb] wr fun e w' => e = .returned (.tuple #[obV no, .bool ok]) ∧ Below wr.heap.size wr w') := Lib.hid (by rw [hno, hok, hoo]; exact S1.out.obj cb)
      have HOO := Lib.hid hoo
      have HNO := Lib.hid hno
      have HOK := Lib.hid hok
      have HMX := Lib.hid (fun v => rmay v (⟨ca, cb, cx, cd, ce, cf, cg, ch⟩ : Cp))
      obtain ⟨mB, hmB⟩ : ∃ y : Bool, y = mayC (⟨ca, cb, cx, cd, ce, cf, cg, ch⟩ : Cp) := ⟨_, rfl⟩
      rw [← hmB] at HMX
      have HMB := Lib.hid hmB
      generalize hcb : w.heap.size + 1 = cB at *
      have HCB := Lib.hid hcb
      clear hcb
      clear hoo hno hok hmB
      obtain ⟨x0, x1, x2, x3, x4, x5, x6, x7⟩ := cap_cells hc1
      simp only [] at x0 x1 x2 x3 x4 x5 x6 x7
      clear hc1
      go_upto_region 9 with (go_at_call 29; (with_reducible refine HGO.out.mono ?_); rintro e w2 ⟨rfl, hb2⟩; have HB2 := Lib.hid hb2; clear hb2)
      obtain ⟨nid, nkd, nsz, nfi, nfr, nma, nse, npg, nlv⟩ := no
      obtain ⟨w3, hw3⟩ : ∃ y, y = w2.alloc (.cells #[.int .i64 nid, .int .i64 nkd, .int .i64 nsz, .int .i64 nfi, .int .i64 nfr, .int .i64 nma, .int .i64 nse, .int .i64 npg, .int .i64 nlv] 84) := ⟨_, rfl⟩
      have hb3 : Below w2.heap.size w2 w3 := hw3 ▸ bal (Below.refl _ _) _
      have hnb : w3.heap[w2.heap.size]? = some (.cells #[.int .i64 nid, .int .i64 nkd, .int .i64 nsz, .int .i64 nfi, .int .i64 nfr, .int .i64 nma, .int .i64 nse, .int .i64 npg, .int .i64 nlv] 84 (0, 0)) := by rw [hw3]; exact heap_alloc_new w2 _
      have HB3 := Lib.hid (HB2.out.trans (hb3.mono HB2.out.size))
      have HC3 := Lib.hid ((HB3.out.block cB HLT.out).trans HC1.out)
      have HN3 := Lib.hid hnb
      have S3 := Lib.hid (S1.out.call HB3.out)
      have HNB : Hid (wr.heap.size ≤ w2.heap.size) := Lib.hid HB2.out.size
      show Code.wp _ _ _ _ (w2.alloc (.cells #[.int .i64 nid, .int .i64 nkd, .int .i64 nsz, .int .i64 nfi, .int .i64 nfr, .int .i64 nma, .int .i64 nse, .int .i64 npg, .int .i64 nlv] 84))
      rw [← hw3]
      generalize w2.heap.size = nB at *
      clear hw3 hb3 hnb HB2 HGO x0 x1 x2 x3 x4 x5 x6 x7 S1
      obtain ⟨x0, x1, x2, x3, x4, x5, x6, x7⟩ := cap_cells HC3.out
      simp only [] at x0 x1 x2 x3 x4 x5 x6 x7
      have n1 := obc_kd HN3.out
      have n2 := obc_sz HN3.out
      cases mB with
      | false =>
        have E0 : Hid (stepP M O ⟨ca, cb, cx, cd, ce, cf, cg, ch⟩ a rest = none) := Lib.hid (by unfold stepP; rw [if_neg (fun e => by have := HMB.out; rw [e.1] at this; cases this)])
        go_wp2_with (go_at_call 30; (with_reducible refine (HMX.out w3).mono ?_); rintro e w4 ⟨rfl, hb4⟩; have HB4 := Lib.hid (HB3.out.trans (hb4.mono HB3.out.size)); have HC4 := Lib.hid ((hb4.block cB (Array.getElem?_eq_some_iff.1 HC3.out).1).trans HC3.out); have HN4 := Lib.hid ((hb4.block nB (Array.getElem?_eq_some_iff.1 HN3.out).1).trans HN3.out); have S4 := Lib.hid (S3.out.call hb4); clear hb4 x0 x1 x2 x3 x4 x5 x6 x7 n1 n2; obtain ⟨x0, x1, x2, x3, x4, x5, x6, x7⟩ := cap_cells HC4.out; have n1 := obc_kd HN4.out; have n2 := obc_sz HN4.out; simp only [] at x0 x1 x2 x3 x4 x5 x6 x7)
        exact bodyPost_ret (v := .tuple #[u12, .int .i64 12]) (by simp [results, Tryd.results13, go_sem]) rfl ⟨_, by rw [H12.out E0.out], HF.out E0.out _ HB4.out⟩
      | true =>
        by_cases hk2 : ca = 2
        · obtain ⟨⟨hf0, hf1⟩, hg0, hg1, hg2, hz1', hz2', hz3', hz4'⟩ := may_node HMB.out.symm hk2
          simp only [] at hf0 hf1 hg0 hg1 hg2 hz1' hz2' hz3' hz4'
          subst hk2 hz1' hz2' hz3' hz4'
          cases hq : oo with
          | none =>
            have E0 : Hid (stepP M O ⟨2, cb, 0, 0, ce, cf, 0, 0⟩ a rest = none) := Lib.hid (by
              unfold stepP
              rw [if_pos ⟨HMB.out.symm, rfl⟩, ← HOO.out, hq])
            have hok := HOK.out
            rw [hq] at hok
            simp only [Option.isSome_none] at hok
            subst hok
            clear hq
            go_wp2_with (go_at_call 30; (with_reducible refine (HMX.out w3).mono ?_); rintro e w4 ⟨rfl, hb4⟩; have HB4 := Lib.hid (HB3.out.trans (hb4.mono HB3.out.size)); have HC4 := Lib.hid ((hb4.block cB (Array.getElem?_eq_some_iff.1 HC3.out).1).trans HC3.out); have HN4 := Lib.hid ((hb4.block nB (Array.getElem?_eq_some_iff.1 HN3.out).1).trans HN3.out); have S4 := Lib.hid (S3.out.call hb4); clear hb4 x0 x1 x2 x3 x4 x5 x6 x7 n1 n2; obtain ⟨x0, x1, x2, x3, x4, x5, x6, x7⟩ := cap_cells HC4.out; have n1 := obc_kd HN4.out; have n2 := obc_sz HN4.out; simp only [] at x0 x1 x2 x3 x4 x5 x6 x7)
            exact bodyPost_ret (v := .tuple #[u12, .int .i64 12]) (by simp [results, Tryd.results13, go_sem]) rfl ⟨_, by rw [H12.out E0.out], HF.out E0.out _ HB4.out⟩
          | some o =>
            have hok := HOK.out
            rw [hq] at hok
            simp only [Option.isSome_some] at hok
            subst hok
            have hno := HNO.out
            rw [hq] at hno
            simp only [Option.getD_some] at hno
            subst hno
            have hgo : getO O cb = some ⟨nid, nkd, nsz, nfi, nfr, nma, nse, npg, nlv⟩ := by rw [← HOO.out, hq]
            have HGO := Lib.hid hgo
            clear hq hgo
            by_cases hkd : nkd = 2
            · subst hkd
              obtain ⟨z1, z2⟩ := HR.out cb _ HGO.out rfl
              simp only [] at z1 z2
              obtain ⟨z, rfl⟩ : ∃ z : Nat, nsz = z := ⟨nsz.toNat, by omega⟩
              obtain ⟨fn, rfl⟩ : ∃ f : Nat, cf = f := ⟨cf.toNat, by omega⟩
              have hst : stepP M O ⟨2, cb, 0, 0, ce, (fn : Int), 0, 0⟩ a rest = if fn + z ≤ rest ∧ takeN a rest fn = ce.toNat ∧ (takeN a (rest - fn) z : Int) < sizS M cb then some ⟨cb, takeN a (rest - fn) z, rest - fn - z⟩ else none := by
                unfold stepP
                rw [if_pos ⟨HMB.out.symm, rfl⟩, HGO.out]
                simp
              have HST := Lib.hid hst
              clear hst
              by_cases hl1 : rest < fn
              · have E0 : Hid (stepP M O ⟨2, cb, 0, 0, ce, (fn : Int), 0, 0⟩ a rest = none) := Lib.hid (by rw [HST.out, if_neg (fun e => by omega)])
                have hgt : (fn : Int) > (rest : Int) := by omega
                go_wp2_with (go_at_call 30; (with_reducible refine (HMX.out w3).mono ?_); rintro e w4 ⟨rfl, hb4⟩; have HB4 := Lib.hid (HB3.out.trans (hb4.mono HB3.out.size)); have HC4 := Lib.hid ((hb4.block cB (Array.getElem?_eq_some_iff.1 HC3.out).1).trans HC3.out); have HN4 := Lib.hid ((hb4.block nB (Array.getElem?_eq_some_iff.1 HN3.out).1).trans HN3.out); have S4 := Lib.hid (S3.out.call hb4); clear hb4 x0 x1 x2 x3 x4 x5 x6 x7 n1 n2; obtain ⟨x0, x1, x2, x3, x4, x5, x6, x7⟩ := cap_cells HC4.out; have n1 := obc_kd HN4.out; have n2 := obc_sz HN4.out; simp only [] at x0 x1 x2 x3 x4 x5 x6 x7)
                exact bodyPost_ret (v := .tuple #[u12, .int .i64 12]) (by simp [results, Tryd.results13, go_sem]) rfl ⟨_, by rw [H12.out E0.out], HF.out E0.out _ HB4.out⟩
              · obtain ⟨r, rfl⟩ : ∃ r, rest = fn + r := ⟨rest - fn, by omega⟩
                have hgt : ¬ (fn : Int) > ((fn + r : Nat) : Int) := by omega
                go_upto_region 11 with (go_at_call 30; (with_reducible refine (HMX.out w3).mono ?_); rintro e w4 ⟨rfl, hb4⟩; have HB4 := Lib.hid (HB3.out.trans (hb4.mono HB3.out.size)); have HC4 := Lib.hid ((hb4.block cB (Array.getElem?_eq_some_iff.1 HC3.out).1).trans HC3.out); have HN4 := Lib.hid ((hb4.block nB (Array.getElem?_eq_some_iff.1 HN3.out).1).trans HN3.out); have S4 := Lib.hid (S3.out.call hb4); clear hb4 x0 x1 x2 x3 x4 x5 x6 x7 n1 n2; obtain ⟨x0, x1, x2, x3, x4, x5, x6, x7⟩ := cap_cells HC4.out; have n1 := obc_kd HN4.out; have n2 := obc_sz HN4.out; simp only [] at x0 x1 x2 x3 x4 x5 x6 x7)
                go_quiet ((go_at_call 31; exact Calls.quiet_of_same (same_q (take_any _ a (fn + r) fn HA.out HRD.out (by omega)))))
                obtain ⟨w5, hw5⟩ : ∃ y, y = w4.drewN nq := ⟨_, rfl⟩
                have hb5 : Below w4.heap.size w4 w5 := hw5 ▸ below_drewN (Below.refl _ _) nq
                have S5 := Lib.hid (S4.out.call hb5)
                have HB5 := Lib.hid (HB4.out.trans (hb5.mono HB4.out.size))
                have HC5 := Lib.hid ((hb5.block cB (Array.getElem?_eq_some_iff.1 HC4.out).1).trans HC4.out)
                have HN5 := Lib.hid ((hb5.block nB (Array.getElem?_eq_some_iff.1 HN4.out).1).trans HN4.out)
                rw [← hw5]
                clear hw5 hb5 S4 S3 HB4 HB3 HC4 HC3 HN4 HN3 HC1 x0 x1 x2 x3 x4 x5 x6 x7 n1 n2 hgt HMX HGO HNO HOK HOO
                obtain ⟨x0, x1, x2, x3, x4, x5, x6, x7⟩ := cap_cells HC5.out
                simp only [] at x0 x1 x2 x3 x4 x5 x6 x7
                have n2 := obc_sz HN5.out
                generalize hgd : takeN a (fn + r) fn = gd at *
                by_cases hge : (gd : Int) = ce
                · subst hge
                  have hneq : ((gd : Int) != (gd : Int)) = false := by simp
                  have hr12 : fn + r ≤ 12 := HRD.out
                  by_cases hzr : r < z
                  · have E0 : Hid (stepP M O ⟨2, cb, 0, 0, (gd : Int), (fn : Int), 0, 0⟩ a (fn + r) = none) := Lib.hid (by rw [HST.out, if_neg (fun e => by omega)])
                    have hgt : (z : Int) > (r : Int) := by omega
                    have hz1n : ¬ (z : Int) < 1 := by omega
                    have hsub : ((fn + r : Nat) : Int) - fn = r := by omega
                    go_upto_region 13 with fail
                    go_wp2
                    exact bodyPost_ret (v := .tuple #[u12, .int .i64 12]) (by simp [results, Tryd.results13, go_sem]) rfl ⟨_, by rw [H12.out E0.out], HF.out E0.out _ HB5.out⟩
                  · obtain ⟨l, rfl⟩ : ∃ l, r = z + l := ⟨r - z, by omega⟩
                    have hgt : ¬ (z : Int) > ((z + l : Nat) : Int) := by omega
                    have hz1n : ¬ (z : Int) < 1 := by omega
                    have hsub : ((fn + (z + l) : Nat) : Int) - fn = ((z + l : Nat) : Int) := by omega
                    go_upto_region 16 with fail
                    have hnl : nB < w5.heap.size := (Array.getElem?_eq_some_iff.1 HN5.out).1
                    have hcl : cB < w5.heap.size := (Array.getElem?_eq_some_iff.1 HC5.out).1
                    have KS := Lib.hid (fun o => (by
                      have hb := bal (Below.refl w5.heap.size w5) o
                      exact ⟨(hb.cell (p := ⟨cB, 1, none⟩) hcl).trans x1, (hb.cell (p := ⟨nB, 2, none⟩) hnl).trans n2⟩ : (w5.alloc o).cell? ⟨cB, 1, none⟩ = some (.int .i64 cb) ∧ (w5.alloc o).cell? ⟨nB, 2, none⟩ = some (.int .i64 (z : Int))))
                    have HTK : Hid (∀ v, Calls Tryd.prog 31 #[.int .u64 a, .int .i64 ((z : Int) + (l : Int)), .int .i64 (z : Int)] v fun e w' => e = .returned (.int .i64 (takeN a (z + l) z)) ∧ v = w') := Lib.hid (fun v => by have := take_any v a (z + l) z HA.out (by omega) (by omega); rwa [Int.natCast_add] at this)
                    rw [show (fn : Int) + ((z : Int) + (l : Int)) - fn = (z : Int) + (l : Int) by omega]
                    go_region_held3 (fun w' => w'.cell? ⟨cB, 1, none⟩ = some (.int .i64 cb) ∧ w'.cell? ⟨nB, 2, none⟩ = some (.int .i64 (z : Int)))
                      (first | exact ⟨x1, n2⟩ | exact KS.out _)
                      (first | (go_at_call 31; (with_reducible refine (HTK.out _).mono ?_); rintro e w' ⟨rfl, rfl⟩))
                    all_goals
                      clear KS HTK
                      rw [show fn + (z + l) - fn = z + l by omega, show z + l - z = l by omega] at HST
                      have hix : takeN a (z + l) z < 4096 := Nat.lt_of_lt_of_le (takeN_lt _ _ _) (show 2 ^ z ≤ 2 ^ 12 from Nat.pow_le_pow_right (by decide) (by omega))
                      generalize takeN a (z + l) z = ix at *
                      obtain ⟨w6, hw6⟩ : ∃ y, y = (w5.alloc (.cells #[.int .i64 cb, .int .i64 (ix : Int)] 34)).drew := ⟨_, rfl⟩
                      have hb6 : Below w5.heap.size w5 w6 := hw6 ▸ (bal (Below.refl _ _) _).drew
                      have S6 := Lib.hid (S5.out.call hb6)
                      have HB6 := Lib.hid (HB5.out.trans (hb6.mono HB5.out.size))
                      have HC6 := Lib.hid ((hb6.block cB hcl).trans HC5.out)
                      have HN6 := Lib.hid ((hb6.block nB hnl).trans HN5.out)
                      have HK6 : Hid (w6.heap[w5.heap.size]? = some (.cells #[.int .i64 cb, .int .i64 (ix : Int)] 34 (0, 0))) := Lib.hid (by rw [hw6]; exact heap_alloc_new w5 _)
                      have HSB : Hid (wr.heap.size ≤ w5.heap.size) := Lib.hid HB5.out.size
                      rw [← hw6]
                      generalize w5.heap.size = sB at *
                      clear hw6 hb6 x0 x1 x2 x3 x4 x5 x6 x7 n2 S5 HB5 HC5 HN5 hnl hcl
                      have n2 := obc_sz HN6.out
                      have HHAS := Lib.hid (S6.out.has cb ix)
                      obtain ⟨k0, k1, -, -⟩ := slot_cells HK6.out
                      go_upto_region 18 with fail
                      rw [show (z : Int) + (l : Int) - z = (l : Int) by omega]
                      by_cases hsz : (ix : Int) < sizS M cb
                      · rw [getR_some.2 hsz] at HHAS
                        go_upto_region 20 with (go_at_call 32; (with_reducible refine HHAS.out.mono ?_); rintro e w7 ⟨rfl, hb7⟩; have HB7 := Lib.hid (HB6.out.trans (hb7.mono HB6.out.size)); have HK7 := Lib.hid ((hb7.block sB (Array.getElem?_eq_some_iff.1 HK6.out).1).trans HK6.out); have HC7 := Lib.hid ((hb7.block cB (Array.getElem?_eq_some_iff.1 HC6.out).1).trans HC6.out); clear hb7)
                        have HNX := Lib.hid (HI.out.next (p := ⟨cb, ix, l⟩) h0 (by rw [HST.out, if_pos ⟨by omega, by simp, hsz⟩]) HR.out)
                        have hrow := row_call HI.out.row HB7.out
                        have hk12 : k < 12 := by have := HNX.out.2.1; have := HPL.out; omega
                        obtain ⟨a0, n0, c0, rfl⟩ : ∃ a0 n0 c0, u12 = .slice a0 n0 c0 := by
                          rcases hrow.2 with ⟨rfl, _⟩ | ⟨g, cap, cur, rfl, _⟩
                          · exact ⟨_, _, _, rfl⟩
                          · exact ⟨_, _, _, rfl⟩
                        obtain ⟨nc, hnc⟩ : ∃ y, y = capN M ⟨cb, ix, l⟩ := ⟨_, rfl⟩
                        have HGT : Hid (∀ v, SeesR v sb b M O → Calls Tryd.prog 33 #[.pointer (some ⟨sb, 0, none⟩), .agg #[.int .i64 cb, .int .i64 (ix : Int)]] v fun e w' => e = .returned (.tuple #[nc.V, .int .i64 (TabS.getN (getR M cb (ix : Int)))]) ∧ Below v.heap.size v w') := Lib.hid (fun v hv => by rw [hnc]; exact hv.get cb ix)
                        have HROW := Lib.hid hrow
                        have HNC := Lib.hid hnc
                        have HBW7 := Lib.hid (HI.out.bl.trans (HB7.out.mono HI.out.bl.size))
                        have hwr := HI.out.bl.size
                        have hw7 := HB7.out.size
                        have hcb := HCB.out
                        have hsb' := (Array.getElem?_eq_some_iff.1 HK7.out).1
                        have hcl := (Array.getElem?_eq_some_iff.1 HC7.out).1
                        have hlt := HLT.out
                        have hsb := HSB.out
                        clear hrow hnc k0 k1 n2 S6 HB6 HC6 HN6 HK6 HST hsz HHAS HF H12
                        obtain ⟨k0, k1, -, -⟩ := slot_cells HK7.out
                        go_upto_region 21 with (at_builtin; refine wpList_append_own _ rfl _ _ 40 rfl (w.heap.size + 2) 34 i0 (.agg #[.int .i64 0, .int .i64 0]) 2 16 Tryd.underlying40 HI0.out hz0 hz1 hz2 rfl (by decide) _ _ _ rfl (HROW.out.alloc _) ⟨w7.heap.size, 0, none⟩ 1 1 (Nx.cells ⟨cb, ix, l⟩) rfl rfl (news_at w7 _ (Nx.cells ⟨cb, ix, l⟩) _ rfl) (by simp [Value.oneCell', Nx.cells]) (by unfold maxLen; omega) (by omega) (by simp; omega) ?_; intro v' w8 hown hgrow _; have HOWN := Lib.hid hown; have HGR := Lib.hid hgrow; clear hown hgrow)
                        have e8 : ∀ j, j < w7.heap.size → (j < w.heap.size + 2 ∨ wr.heap.size ≤ j) → w8.heap[j]? = w7.heap[j]? := fun j h1 h2 => (HGR.out.block j (by simp; omega) (fun e => by
                          have q1 := (own_of HROW.out e.symm).1
                          obtain ⟨_, cur, q2⟩ := own_of HI.out.row e.symm
                          have q3 := (Array.getElem?_eq_some_iff.1 q2).1
                          omega)).trans (Below.heap_alloc _ _ _ h1)
                        have hb8 : Below w.heap.size w w8 := (bal HBW7.out _).trans (grown_below HGR.out (fun k e => by have := (own_of HROW.out e).1; omega) (by simp; omega))
                        have hc8 := (e8 cB hcl (.inl (by omega))).trans HC7.out
                        have HK8 := Lib.hid ((e8 sB hsb' (.inr hsb)).trans HK7.out)
                        have HC8 := Lib.hid hc8
                        have HB8 := Lib.hid hb8
                        have S8 := Lib.hid (HS.out.call hb8)
                        have h78 : w7.heap.size ≤ w8.heap.size := by have := HGR.out.size; simp at this; omega
                        have HCL8 : Hid (cB < w8.heap.size ∧ w.heap.size + 2 ≤ w8.heap.size) := Lib.hid ⟨by omega, by omega⟩
                        obtain ⟨na, nb2, nx, nd, ne, nf, ng, nh⟩ := nc
                        clear e8 hb8 hc8 k0 k1 hwr hw7 hcb hsb' hcl hlt hsb h78 HK7 HC7 HB7 HBW7 HROW HGR
                        obtain ⟨k0, k1, -, -⟩ := slot_cells HK8.out
                        have G8 := Lib.hid (HGT.out w8 S8.out)
                        go_wp2_with (go_at_call 33; (with_reducible refine G8.out.mono ?_); rintro e w9 ⟨rfl, hb9⟩; have HB9 := Lib.hid hb9; have hc9 := (hb9.block cB HCL8.out.1).trans HC8.out; have HC9 := Lib.hid hc9; obtain ⟨x0, x1, x2, x3, x4, x5, x6, x7⟩ := cap_cells hc9; simp only [] at x0 x1 x2 x3 x4 x5 x6 x7; obtain ⟨f0, f1, f2, f3, f4, f5, f6, f7⟩ := cap_froz hc9; clear hb9)
                        have hcb := HCB.out
                        have hc9' : w9.heap[w.heap.size + 1]? = some (.cells (⟨2, cb, 0, 0, (gd : Int), (fn : Int), 0, 0⟩ : Cp).L.toArray 25 (0, 0)) := by rw [hcb]; exact HC9.out
                        have hfin := HI.out.step9 (p := ⟨cb, ix, l⟩) (nc := ⟨na, nb2, nx, nd, ne, nf, ng, nh⟩) HNX.out HNC.out (HB8.out.trans (HB9.out.mono HB8.out.size)) hc9' (row_call HOWN.out HB9.out)
                        rw [hcb] at hfin
                        refine ⟨⟨k + 1, ⟨na, nb2, nx, nd, ne, nf, ng, nh⟩, l, rfl, Lib.hid hfin⟩, ?_⟩
                        simp [intOf]
                        omega
                      · have E0 : Hid (stepP M O ⟨2, cb, 0, 0, (gd : Int), (fn : Int), 0, 0⟩ a (fn + (z + l)) = none) := Lib.hid (by rw [HST.out, if_neg (fun e => hsz e.2.2)])
                        rw [show (getR M cb (ix : Int)).isSome = false from Bool.eq_false_iff.2 (fun e => hsz (getR_some.1 e))] at HHAS
                        go_wp2_with (go_at_call 32; (with_reducible refine HHAS.out.mono ?_); rintro e w7 ⟨rfl, hb7⟩; have HB7 := Lib.hid (HB6.out.trans (hb7.mono HB6.out.size)); clear hb7)
                        exact bodyPost_ret (v := .tuple #[u12, .int .i64 12]) (by simp [results, Tryd.results13, go_sem]) rfl ⟨_, by rw [H12.out E0.out], HF.out E0.out _ HB7.out⟩
                · have E0 : Hid (stepP M O ⟨2, cb, 0, 0, ce, (fn : Int), 0, 0⟩ a (fn + r) = none) := Lib.hid (by rw [HST.out, if_neg (fun e => hge (by rw [e.2.1]; omega))])
                  have hneq : ((gd : Int) != ce) = true := by simp [hge]
                  go_wp2
                  exact bodyPost_ret (v := .tuple #[u12, .int .i64 12]) (by simp [results, Tryd.results13, go_sem]) rfl ⟨_, by rw [H12.out E0.out], HF.out E0.out _ HB5.out⟩
            · have E0 : Hid (stepP M O ⟨2, cb, 0, 0, ce, cf, 0, 0⟩ a rest = none) := Lib.hid (by
                unfold stepP
                rw [if_pos ⟨HMB.out.symm, rfl⟩, HGO.out]
                simp only []
                rw [if_neg (fun e => hkd e.1)])
              go_wp2_with (go_at_call 30; (with_reducible refine (HMX.out w3).mono ?_); rintro e w4 ⟨rfl, hb4⟩; have HB4 := Lib.hid (HB3.out.trans (hb4.mono HB3.out.size)); have HC4 := Lib.hid ((hb4.block cB (Array.getElem?_eq_some_iff.1 HC3.out).1).trans HC3.out); have HN4 := Lib.hid ((hb4.block nB (Array.getElem?_eq_some_iff.1 HN3.out).1).trans HN3.out); have S4 := Lib.hid (S3.out.call hb4); clear hb4 x0 x1 x2 x3 x4 x5 x6 x7 n1 n2; obtain ⟨x0, x1, x2, x3, x4, x5, x6, x7⟩ := cap_cells HC4.out; have n1 := obc_kd HN4.out; have n2 := obc_sz HN4.out; simp only [] at x0 x1 x2 x3 x4 x5 x6 x7)
              exact bodyPost_ret (v := .tuple #[u12, .int .i64 12]) (by simp [results, Tryd.results13, go_sem]) rfl ⟨_, by rw [H12.out E0.out], HF.out E0.out _ HB4.out⟩
        · have E0 : Hid (stepP M O ⟨ca, cb, cx, cd, ce, cf, cg, ch⟩ a rest = none) := Lib.hid (by unfold stepP; rw [if_neg (fun e => hk2 e.2)])
          go_wp2_with (go_at_call 30; (with_reducible refine (HMX.out w3).mono ?_); rintro e w4 ⟨rfl, hb4⟩; have HB4 := Lib.hid (HB3.out.trans (hb4.mono HB3.out.size)); have HC4 := Lib.hid ((hb4.block cB (Array.getElem?_eq_some_iff.1 HC3.out).1).trans HC3.out); have HN4 := Lib.hid ((hb4.block nB (Array.getElem?_eq_some_iff.1 HN3.out).1).trans HN3.out); have S4 := Lib.hid (S3.out.call hb4); clear hb4 x0 x1 x2 x3 x4 x5 x6 x7 n1 n2; obtain ⟨x0, x1, x2, x3, x4, x5, x6, x7⟩ := cap_cells HC4.out; have n1 := obc_kd HN4.out; have n2 := obc_sz HN4.out; simp only [] at x0 x1 x2 x3 x4 x5 x6 x7)
          exact bodyPost_ret (v := .tuple #[u12, .int .i64 12]) (by simp [results, Tryd.results13, go_sem]) rfl ⟨_, by rw [H12.out E0.out], HF.out E0.out _ HB4.out⟩
end LkS
end
/- chapter 16: rows of slots compared; what was answered is written over; the own answer's Resolve. -/
section
set_option linter.unusedVariables false
set_option linter.unusedSimpArgs false
open Go.ChangeShapes Go.WideShapes Go.ChangeAt Go.RowKit Go.Shelf

namespace LkS
open TabS (Cp Sn zC mayC sizS getR Two Pr SlotsAt RefS rowsS hasS)
/-- A row of slots that may be read. -/
def RowF (w : World) (v : Value) (P : List Nx) : Prop := ∃ ra rc, v = .slice ra P.length rc ∧ ∀ k p, P[k]? = some p → ∃ g, ra = some ⟨g, 0, none⟩ ∧ g < w.heap.size ∧ w.cell? ⟨g, k * 2, none⟩ = some (.int .i64 p.n) ∧ w.cell? ⟨g, k * 2 + 1, none⟩ = some (.int .i64 (p.i : Int))
theorem RowF.call {w w' : World} {v : Value} {P : List Nx} (h : RowF w v P) (hb : Below w.heap.size w w') : RowF w' v P := by
  obtain ⟨ra, rc, e, h⟩ := h
  refine ⟨ra, rc, e, fun k p hk => ?_⟩
  obtain ⟨g, e, hg, h0, h1⟩ := h k p hk
  exact ⟨g, e, Nat.lt_of_lt_of_le hg hb.size, (hb.cell (p := ⟨g, _, none⟩) hg).trans h0, (hb.cell (p := ⟨g, _, none⟩) hg).trans h1⟩
theorem rowF_of {w : World} {base n : Nat} {v : Value} {P : List Nx} (h : w.ownsRow base 34 2 v n (slC P)) (hn : n = P.length) : RowF w v P := by
  obtain ⟨ra, rc, e, _, hk⟩ := LkS.row_form h hn
  subst hn
  exact ⟨ra, rc, e, fun k p hp => by
    obtain ⟨g, e, _, h1, h2⟩ := hk k p hp
    exact ⟨g, e, h1, h2⟩⟩
theorem neSelf (a b : Int) (w : World) : (binOp .neq 34 (.agg #[.int .i64 a, .int .i64 b]) (.agg #[.int .i64 a, .int .i64 b])).run Tryd.prog w = .ok (.bool false) w := by
  go_simp
set_option maxRecDepth 100000 in
theorem same_true (w : World) (u v : Value) (P : List Nx) (hu : RowF w u P) (hv : RowF w v P) (hn : P.length ≤ 12) :
    Calls Tryd.prog 15 #[u, v] w fun e w' => e = .returned (.bool true) ∧ Below w.heap.size w w' := by
  obtain ⟨ra, rc, rfl, hc⟩ := hu
  obtain ⟨qa, qc, rfl, hd⟩ := hv
  have HC := Lib.hid hc
  have HD := Lib.hid hd
  clear hc hd
  generalize hN : P.length = N at *
  go_enter Tryd.func15, Tryd.ntmps15
  go_wp2
  go_loopw [5] (fun i wr => ∃ k : Nat, k ≤ N ∧ i = .int .i64 k ∧ (∃ j, wr = w.drewN j)) (fun i _ => N - (intOf i).toNat)
  case atStart => exact ⟨0, by omega, rfl, 0, rfl⟩
  case round =>
    obtain ⟨k, hk, rfl, j, rfl⟩ := hrel
    by_cases hlt : k < N
    · obtain ⟨x, hx⟩ : ∃ x, P[k]? = some x := ⟨P[k]'(by omega), List.getElem?_eq_getElem _⟩
      obtain ⟨g, rfl, -, x0, x1⟩ := HC.out k x hx
      obtain ⟨q, rfl, -, y0, y1⟩ := HD.out k x hx
      have hne := neSelf x.n (x.i : Int)
      have hlt' : (k : Int) < N := by omega
      clear hx
      go_wp2
      go_quiet (fail)
      go_wp2
      go_roundw
      case rel => exact ⟨k + 1, by omega, by go_num, _, rfl⟩
      case measure => simp [intOf]; omega
    · have hkN : k = N := by omega
      subst hkN
      go_wp2
      go_ret
      exact ⟨rfl, below_drewN (Below.refl _ _) _⟩
theorem grown_cell (w : World) (g i : Nat) (u : Value) : w.grownBy (w.setCell ⟨g, i, none⟩ u) (some g) :=
  ⟨rfl, rfl, rfl, by simp, fun k _ hk => Go.heap_setCell_other _ _ _ _ (fun e => hk (by rw [e]))⟩
theorem grown_trans {a b c : World} {r : Option Nat} (h : a.grownBy b r) (k : b.grownBy c r) : a.grownBy c r :=
  ⟨k.os.trans h.os, k.tape.trans h.tape, k.output.trans h.output, Nat.le_trans h.size k.size, fun j h1 h2 => (k.block j (Nat.lt_of_lt_of_le h1 h.size) h2).trans (h.block j h1 h2)⟩
set_option maxRecDepth 100000 in
theorem over_slots (w : World) (v : Value) (n' : Nat) (xs : List Value) (h : w.ownsRow 0 34 2 v n' xs) (hl : n' ≤ 1000) :
    Calls Tryd.prog 16 #[v] w fun e w' => (∃ u, e = .returned u) ∧ w.grownBy w' v.ownBlock := by
  obtain ⟨i0, hi0, hz0, hz1, hz2⟩ := info_parts infoSlo
  have HI0 := Lib.hid hi0
  clear hi0
  rcases h.2 with ⟨rfl, h0⟩ | ⟨g, cap, cur, rfl, hg, hb, hn, hcap, hs, _⟩
  · rw [h0] at *
    go_enter Tryd.func16, Tryd.ntmps16
    go_wp2
    refine wp_loop_rounds 1 ?_
    rw [rounds_succ]
    go_wp2_with (at_builtin; refine wpList_append_own _ rfl _ _ 40 rfl 0 34 i0 (.agg #[.int .i64 0, .int .i64 0]) 2 16 Tryd.underlying40 HI0.out hz0 hz1 hz2 rfl (by decide) _ _ _ rfl ((World.ownsRow_nil w 0 34 2).alloc _) ⟨w.heap.size, 0, none⟩ 1 1 [.int .i64 (-9), .int .i64 0] rfl rfl (news_at w _ _ _ rfl) (by simp [Value.oneCell']) (by unfold maxLen; omega) (by omega) (by omega) ?_; intro v' w1 hown' hgrow _)
    go_end0
    exact ⟨⟨_, rfl⟩, grown_trans (World.grownBy_alloc w _ _) hgrow⟩
  · generalize n' = n at *
    go_enter Tryd.func16, Tryd.ntmps16
    go_wp2
    go_loopw [2] (fun i wr => ∃ (k : Nat) (cs : Array Value), k ≤ n ∧ i = .int .i64 k ∧ wr.heap[g]? = some (.cells cs 34 (0, 0)) ∧ cs.size = cap * 2 ∧ w.grownBy wr (some g)) (fun i _ => n - (intOf i).toNat)
    case atStart => exact ⟨0, cur, by omega, rfl, hb, by omega, ⟨rfl, rfl, rfl, Nat.le_refl _, fun _ _ _ => rfl⟩⟩
    case round =>
      obtain ⟨k, cs, hk, rfl, hB, hcs, hgr⟩ := hrel
      clear hb
      by_cases hlt : k < n
      · have ck : wr.cell? ⟨g, k * 2, none⟩ = some (cs[k * 2]'(by omega)) := by
          unfold World.cell?; simp only [hB]; exact Array.getElem?_eq_getElem (by omega)
        have ck1 : wr.cell? ⟨g, k * 2 + 1, none⟩ = some (cs[k * 2 + 1]'(by omega)) := by
          unfold World.cell?; simp only [hB]; exact Array.getElem?_eq_getElem (by omega)
        have fk : ∀ j, wr.frozen? ⟨g, j, none⟩ = false := fun j => Go.frozen_of_row _ _ _ _ _ hB
        have HB := Lib.hid hB; clear hB
        generalize cs[k * 2]'(by omega) = x at ck
        generalize cs[k * 2 + 1]'(by omega) = y at ck1
        go_wp2
        go_roundw
        case rel => exact ⟨k + 1, _, by omega, by go_num, Go.heap_setCell_same _ _ _ _ _ _ (Go.heap_setCell_same _ _ _ _ _ _ HB.out), by simp [hcs], grown_trans hgr (grown_trans (grown_cell wr g _ _) (grown_cell _ g _ _))⟩
        case measure => first | (simp [intOf]; done) | (simp [intOf]; omega)
      · obtain rfl : k = n := by omega
        have hown : wr.ownsRow 0 34 2 (.slice (some ⟨g, 0, none⟩) k cap) k (cs.toList.take (k * 2)) := ⟨by simp; omega, .inr ⟨g, cap, cs, rfl, Nat.zero_le _, hB, hn, hcap, by omega, rfl⟩⟩
        go_wp2_with (at_builtin; refine wpList_append_own _ rfl _ _ 40 rfl 0 34 i0 (.agg #[.int .i64 0, .int .i64 0]) 2 16 Tryd.underlying40 HI0.out hz0 hz1 hz2 rfl (by decide) _ _ _ rfl (hown.alloc _) ⟨wr.heap.size, 0, none⟩ 1 1 [.int .i64 (-9), .int .i64 0] rfl rfl (news_at wr _ _ _ rfl) (by simp [Value.oneCell']) (by unfold maxLen; omega) (by omega) (by omega) ?_; intro v' w1 hown' hgrow _)
        go_end0
        exact ⟨⟨_, rfl⟩, grown_trans (grown_trans hgr (World.grownBy_alloc wr _ _)) hgrow⟩
theorem codR_eq (L : List Sn) (O : List Ob) (c : Cp) (a : Nat) (d : Int) : codR L O c a d = (resR L O c a d).2.2 := by
  unfold codR resR codP
  by_cases hk : chkN a d = 0
  · rw [if_pos hk, if_pos hk]
    cases resP (pathP L O a d.toNat c d.toNat) <;> rfl
  · rw [if_neg hk, if_neg hk]
    unfold chkN at hk ⊢
    split
    · rfl
    · split
      · rename_i h1 h2; rw [if_neg h1, if_pos h2] at hk; exact (hk rfl).elim
      · rfl
set_option maxRecDepth 100000 in
set_option maxHeartbeats 1000000 in
theorem rpath_any (w : World) (sb b : Nat) (M : List Sn) (O : List Ob) (c : Cp) (a : Nat) (d : Int) (h : SeesR w sb b M O) (hR : Rad O) (ha : a < 2 ^ 64) :
    Calls Tryd.prog 13 #[.pointer (some ⟨sb, 0, none⟩), .pointer (some ⟨b, 0, none⟩), c.V, .int .u64 a, .int .i64 d] w fun e w' => ∃ v, e = .returned (.tuple #[v, .int .i64 (codR M O c a d)]) ∧ w'.ownsRow w.heap.size 34 2 v (pathR M O c a d).length (slC (pathR M O c a d)) ∧ Below w.heap.size w w' := by
  unfold codR pathR
  by_cases hk : chkN a d = 0
  · rw [if_pos hk, if_pos hk]
    unfold chkN at hk
    split at hk
    · cases hk
    · rename_i h1
      split at hk
      · rename_i h2
        obtain ⟨n, rfl⟩ : ∃ n : Nat, d = n := ⟨d.toNat, by omega⟩
        rw [show ((n : Int)).toNat = n by simp] at h2 ⊢
        exact rpath_in w sb b M O c a n h hR ha (by omega) (by omega) h2
      · cases hk
  · rw [if_neg hk, if_neg hk]
    have hbl : Below w.heap.size w (w.alloc (.cells #[.int .i64 c.a, .int .i64 c.b, .int .i64 c.c, .int .u64 c.d, .int .i64 c.e, .int .i64 c.f, .int .i64 c.g, .int .i64 c.h] 25)) := bal (Below.refl _ _) _
    have HB := Lib.hid hbl
    clear hbl
    by_cases h1 : d < 1
    · clear hk
      go_enter Tryd.func13, Tryd.ntmps13
      go_wp2
      exact bodyPost_ret (v := .tuple #[.slice none 0 0, .int .i64 3]) (by simp [results, Tryd.results13, go_sem]) rfl ⟨_, rfl, World.ownsRow_nil _ _ _ _, HB.out⟩
    · by_cases h2 : d > 12
      · clear hk
        go_enter Tryd.func13, Tryd.ntmps13
        go_wp2
        exact bodyPost_ret (v := .tuple #[.slice none 0 0, .int .i64 3]) (by simp [results, Tryd.results13, go_sem]) rfl ⟨_, rfl, World.ownsRow_nil _ _ _ _, HB.out⟩
      · obtain ⟨n, rfl⟩ : ∃ n : Nat, d = n := ⟨d.toNat, by omega⟩
        have h3 : ¬ a < 2 ^ n := fun e => hk (by unfold chkN; rw [if_neg (by omega), show ((n : Int)).toNat = n by simp, if_pos e])
        have h4 : (a : Int) / 2 ^ n ≠ 0 := by
          have e : (a : Int) / 2 ^ n = ((a / 2 ^ n : Nat) : Int) := by simp
          have : 0 < a / 2 ^ n := Nat.div_pos (by omega) (Nat.two_pow_pos n)
          rw [e]
          omega
        have h5 : ((a : Int) / 2 ^ n == 0) = false := beq_eq_false_iff_ne.2 h4
        have h6 : ((a : Int) / 2 ^ n != 0) = true := by simp [h4]
        have h7 : ¬ (n : Int) < 1 := h1
        clear hk h3
        go_enter Tryd.func13, Tryd.ntmps13
        go_wp2
        exact bodyPost_ret (v := .tuple #[.slice none 0 0, .int .i64 3]) (by simp [results, Tryd.results13, go_sem]) rfl ⟨_, rfl, World.ownsRow_nil _ _ _ _, HB.out⟩
set_option maxRecDepth 100000 in
set_option maxHeartbeats 1000000 in
theorem rresolve_any (w : World) (sb b : Nat) (M : List Sn) (O : List Ob) (c : Cp) (a : Nat) (d : Int) (h : SeesR w sb b M O) (hR : Rad O) (ha : a < 2 ^ 64) :
    Calls Tryd.prog 11 #[.pointer (some ⟨sb, 0, none⟩), .pointer (some ⟨b, 0, none⟩), c.V, .int .u64 a, .int .i64 d] w fun e w' => e = .returned (.tuple #[.agg #[.int .i64 (resR M O c a d).1, .int .i64 (resR M O c a d).2.1], .int .i64 (resR M O c a d).2.2]) ∧ Below w.heap.size w w' := by
  obtain ⟨ca, cb, cx, cd, ce, cf, cg, ch⟩ := c
  obtain ⟨w1, hw1⟩ : ∃ y, y = (w.alloc (.cells #[.int .i64 ca, .int .i64 cb, .int .i64 cx, .int .u64 cd, .int .i64 ce, .int .i64 cf, .int .i64 cg, .int .i64 ch] 25)).alloc (.cells #[.int .i64 0, .int .i64 0] 34) := ⟨_, rfl⟩
  have hb1 : Below w.heap.size w w1 := hw1 ▸ bal (bal (Below.refl _ _) _) _
  have hx1 : w1.heap[w.heap.size]? = some (.cells (⟨ca, cb, cx, cd, ce, cf, cg, ch⟩ : Cp).L.toArray 25 (0, 0)) := by
    rw [hw1]
    exact (Below.heap_alloc _ _ _ (by simp)).trans (heap_alloc_new w _)
  have hr1 : w1.heap[w.heap.size + 1]? = some (.cells #[.int .i64 0, .int .i64 0] 34 (0, 0)) := by
    rw [hw1]
    have := heap_alloc_new (w.alloc (.cells #[.int .i64 ca, .int .i64 cb, .int .i64 cx, .int .u64 cd, .int .i64 ce, .int .i64 cf, .int .i64 cg, .int .i64 ch] 25)) (.cells #[.int .i64 0, .int .i64 0] 34)
    rwa [World.size_alloc] at this
  have HPA := Lib.hid (rpath_any w1 sb b M O ⟨ca, cb, cx, cd, ce, cf, cg, ch⟩ a d (h.call hb1) hR ha)
  rw [codR_eq] at HPA
  have HRP := Lib.hid (resR_path M O ⟨ca, cb, cx, cd, ce, cf, cg, ch⟩ a d)
  have HPL := Lib.hid (pathR_len (L := M) (c := ⟨ca, cb, cx, cd, ce, cf, cg, ch⟩) (a := a) (d := d) hR)
  obtain ⟨R1, hR1⟩ : ∃ x, x = (resR M O ⟨ca, cb, cx, cd, ce, cf, cg, ch⟩ a d).1 := ⟨_, rfl⟩
  obtain ⟨R2, hR2⟩ : ∃ x, x = (resR M O ⟨ca, cb, cx, cd, ce, cf, cg, ch⟩ a d).2.1 := ⟨_, rfl⟩
  obtain ⟨R3, hR3⟩ : ∃ x, x = (resR M O ⟨ca, cb, cx, cd, ce, cf, cg, ch⟩ a d).2.2 := ⟨_, rfl⟩
  obtain ⟨P, hP⟩ : ∃ x, x = pathR M O ⟨ca, cb, cx, cd, ce, cf, cg, ch⟩ a d := ⟨_, rfl⟩
  rw [← hR1, ← hR2, ← hR3]
  rw [← hR1, ← hR2, ← hR3, ← hP] at HRP
  rw [← hR3, ← hP] at HPA
  rw [← hP] at HPL
  have HW := Lib.hid hw1
  have HB1 := Lib.hid hb1
  have HR1 := Lib.hid hr1
  obtain ⟨x0, x1, x2, x3, x4, x5, x6, x7⟩ := cap_cells hx1
  simp only [] at x0 x1 x2 x3 x4 x5 x6 x7
  have hz1 := (Array.getElem?_eq_some_iff.1 hr1).1
  clear hw1 hb1 hx1 hr1 hR1 hR2 hR3 hP h hR
  go_enter Tryd.func11, Tryd.ntmps11
  go_upto_region 1 with fail
  rw [← HW.out]
  go_upto_region 2 with (go_at_call 13; (with_reducible refine HPA.out.mono ?_); rintro e w2 ⟨v, rfl, hrow, hb2⟩; obtain ⟨ra, rc, rfl, -, hra⟩ := LkS.row_form hrow rfl; have HRA := Lib.hid hra; have HB2 := Lib.hid hb2; clear hrow hra hb2)
  have hr2 := (HB2.out.block _ hz1).trans HR1.out
  obtain ⟨r0, r1, rf0, rf1⟩ := slot_cells hr2
  have HF := Lib.hid (fun (u v : Value) => done2 (u := u) (v := v) rfl (HB1.out.trans (HB2.out.mono HB1.out.size)))
  clear x0 x1 x2 x3 x4 x5 x6 x7 hr2 HPA HW HR1 hz1 HB1
  rcases HRP.out with ⟨rfl, p, hp, rfl, rfl⟩ | ⟨h0, rfl, rfl⟩
  · obtain ⟨m, hm⟩ : ∃ m, P.length = m + 1 := by
      cases P with
      | nil => cases hp
      | cons x P => exact ⟨P.length, rfl⟩
    have hpm : P[m]? = some p := by rw [List.getLast?_eq_getElem?, hm] at hp; exact hp
    obtain ⟨g, rfl, hg1, hg2, z0, z1⟩ := HRA.out m p hpm
    have hmI : ((m : Int) + 1) ≤ 12 := by have := HPL.out; omega
    clear hp hpm HRP HPL HRA HB2
    rw [hm]
    go_wp2
    trace_state
    exact bodyPost_ret (v := .tuple #[.agg #[.int .i64 p.n, .int .i64 (p.i : Int)], .int .i64 0]) (by simp [results, Tryd.results11, go_sem, r0, r1, rf0, rf1]) rfl ⟨rfl, HF.out _ _⟩
  · have h0' : (R3 != 0) = true := by simp [h0]
    clear HRP HPL HRA
    go_wp2
    exact bodyPost_ret (v := .tuple #[.agg #[.int .i64 0, .int .i64 0], .int .i64 R3]) (by simp [results, Tryd.results11, go_sem, r0, r1, rf0, rf1]) rfl ⟨rfl, HF.out _ _⟩
end LkS
end
end Go.Proofs.YtnjdljjmengjbaaDoor
