/- cap.Encode of a capability that may be. -/
import Derived.Test.YtoepbcaldlgnjaaDoorCapE
import Derived.BigRegionIn
import Derived.BigFrameIn
import Derived.Test.YtoepbcaldlgnjaaDoorStillIn
namespace Go.Proofs.YtoepbcaldlgnjaaDoor
set_option linter.unusedVariables false
set_option linter.unusedSimpArgs false
open Go.ChangeShapes Go.WideShapes Go.ChangeAt Go.RowKit Go.Shelf
attribute [local go_sem] Oper.semAt_some

theorem make22 (w : World) : (Instr.makeSlice 25 (.int .i64 2) (.int .i64 2)).run Tryd.prog w = .ok (.slice (some ⟨w.heap.size, 0, none⟩) 2 2) (w.alloc (.cells #[.int .u64 0, .int .u64 0] 22)) := by kernel_rfl
def capFn (a b c d e f g h : Int) (k : Nat) : Int := (capL a b c d e f g h).getD k 0
theorem heap_putObj_ne8 {W : World} {k b : Nat} {o : Obj} (h : k ≠ b) : (W.putObj b o).heap[k]? = W.heap[k]? := by
  simp [World.putObj, Array.getElem?_setIfInBounds, h.symm]
theorem below_put8 {B : Nat} {w W : World} {b : Nat} {o : Obj} (h : Below B w W) (hb : B ≤ b) : Below B w (W.putObj b o) := ⟨h.os, h.tape, h.output, by simpa using h.size, fun k hk => (heap_putObj_ne8 (by omega)).trans (h.block k hk)⟩
/-- What a field turns in the two words. -/
def stepE (V : Nat → Int) (s : Int × Int) (x : Fin 8) : Int × Int := if (layP x.1).1 = 0 then (bits .or .u64 s.1 (IntKind.u64.wrap (V x.1 * 2 ^ (layP x.1).2.1)), s.2) else (s.1, bits .or .u64 s.2 (IntKind.u64.wrap (V x.1 * 2 ^ (layP x.1).2.1)))
def foldE (V : Nat → Int) (pre : List (Fin 8)) : Int × Int := pre.foldl (stepE V) (0, 0)
theorem lay_ok : ∀ x : Fin 8, ((layP x.1).1 = 0 ∨ (layP x.1).1 = 1) ∧ (layP x.1).2.1 ≤ 40 := by decide +kernel
def EncI (V : Nat → Int) (N1 : Nat) (wL : World) (pre : List (Fin 8)) (W : World) : Prop :=
  W.heap[N1]? = some (.cells #[.int .u64 (foldE V pre).1, .int .u64 (foldE V pre).2] 22 (0, 0)) ∧ W.heap[N1 + 1]? = some (.cells #[.slice (some ⟨N1, 0, none⟩) 2 2] 25 (0, 0)) ∧ Below N1 wL W
theorem encI_own (V : Nat → Int) (N1 : Nat) (wL : World) (h : N1 + 1 < wL.heap.size) : OwnFrom wL.heap.size (EncI V N1 wL) := by
  rintro s A C row ⟨h1, h2, h3⟩ hg hr
  have hs := h3.size
  have e : ∀ k, k < wL.heap.size → C.heap[k]? = A.heap[k]? := fun k hk => hg.block k (Nat.lt_of_lt_of_le hk hs) (fun e => by have := (hr k e.symm).1; omega)
  exact ⟨(e _ (by omega)).trans h1, (e _ (by omega)).trans h2, ⟨hg.os.trans h3.os, hg.tape.trans h3.tape, hg.output.trans h3.output, Nat.le_trans h3.size hg.size, fun k hk => (e k (by omega)).trans (h3.block k hk)⟩⟩
theorem or_up (i : Nat) (x v : Int) (hx0 : 0 ≤ x) (hx : x < ((2 ^ i : Nat) : Int)) (hv : 0 ≤ v) (hs : x + v * ((2 ^ i : Nat) : Int) < 18446744073709551616) : bits .or .u64 x (IntKind.u64.wrap (v * 2 ^ i)) = x + v * ((2 ^ i : Nat) : Int) := by
  obtain ⟨X, rfl⟩ := Int.eq_ofNat_of_zero_le hx0
  obtain ⟨Y, rfl⟩ := Int.eq_ofNat_of_zero_le hv
  have e : ((Y : Int) * 2 ^ i) = ((Y * 2 ^ i : Nat) : Int) := by simp
  have e' : ((Y : Int) * ((2 ^ i : Nat) : Int)) = ((Y * 2 ^ i : Nat) : Int) := by simp
  rw [e, e'] 
  rw [e'] at hs
  generalize hz : Y * 2 ^ i = z at *
  rw [IntWalk.u64_in _ (by omega), u64_or_nat X z (by omega) (by omega), Nat.or_comm, nat_join i z X (by rw [← hz]; simp) (by omega), Nat.add_comm]
  simp
theorem encI_set0 {V : Nat → Int} {N1 : Nat} {wL W : World} {ps : List (Fin 8)} {s1 s2 v : Int} (h0 : W.heap[N1]? = some (.cells #[.int .u64 s1, .int .u64 s2] 22 (0, 0))) (h1 : W.heap[N1 + 1]? = some (.cells #[.slice (some ⟨N1, 0, none⟩) 2 2] 25 (0, 0))) (hB : Below N1 wL W) (hst : foldE V ps = (v, s2)) :
    EncI V N1 wL ps (W.setCell ⟨N1, 0, none⟩ (.int .u64 v)).drew := by
  refine ⟨?_, ?_, (hB.setCell (p := ⟨N1, 0, none⟩) (Nat.le_refl _) _).drew⟩
  · rw [hst]
    exact Go.heap_setCell_same W N1 0 _ _ _ h0
  · exact (Go.heap_setCell_other _ _ _ _ (by simp)).trans h1
theorem encI_set1 {V : Nat → Int} {N1 : Nat} {wL W : World} {ps : List (Fin 8)} {s1 s2 v : Int} (h0 : W.heap[N1]? = some (.cells #[.int .u64 s1, .int .u64 s2] 22 (0, 0))) (h1 : W.heap[N1 + 1]? = some (.cells #[.slice (some ⟨N1, 0, none⟩) 2 2] 25 (0, 0))) (hB : Below N1 wL W) (hst : foldE V ps = (s1, v)) :
    EncI V N1 wL ps (W.setCell ⟨N1, 1, none⟩ (.int .u64 v)).drew := by
  refine ⟨?_, ?_, (hB.setCell (p := ⟨N1, 1, none⟩) (Nat.le_refl _) _).drew⟩
  · rw [hst]
    exact Go.heap_setCell_same W N1 1 _ _ _ h0
  · exact (Go.heap_setCell_other _ _ _ _ (by simp)).trans h1
theorem kpF_set {W : World} {vb b i : Nat} {v : Value} (h : vb ≠ b) : KpF vb W (W.setCell ⟨b, i, none⟩ v).drew := ⟨Go.heap_setCell_other _ _ _ _ h, by simp⟩
/-- The two words of a capability. -/
def encA (a b c g h : Int) : Int := a + c * 16 + b * 256 + h * 16777216 + g * 1099511627776
def encB (d e f : Int) : Int := d + e * 16777216 + f * 68719476736
theorem foldE_all {a b c d e f g h : Int} (ha : 0 ≤ a ∧ a ≤ 9) (hc : 0 ≤ c ∧ c ≤ 7) (hb : 0 ≤ b ∧ b ≤ 65535) (hh : 0 ≤ h ∧ h ≤ 511) (hg : 0 ≤ g ∧ g ≤ 16777215) (hd : 0 ≤ d ∧ d ≤ 16777215) (he : 0 ≤ e ∧ e ≤ 4095) (hf : 0 ≤ f ∧ f ≤ 12) :
    foldE (capFn a b c d e f g h) (frs 8 8) = (encA a b c g h, encB d e f) := by
  have e8 : frs 8 8 = [0, 1, 2, 3, 4, 5, 6, 7] := by decide +kernel
  have k0 : bits .or .u64 0 (IntKind.u64.wrap (a * 2 ^ 0)) = a := (or_up 0 0 a (by omega) (by decide) (by omega) (by simp; omega)).trans (by simp)
  have k1 := or_up 4 a c (by omega) (by simp; omega) (by omega) (by simp; omega)
  have k2 := or_up 8 (a + c * 16) b (by omega) (by simp; omega) (by omega) (by simp; omega)
  have k3 := or_up 24 (a + c * 16 + b * 256) h (by omega) (by simp; omega) (by omega) (by simp; omega)
  have k4 := or_up 40 (a + c * 16 + b * 256 + h * 16777216) g (by omega) (by simp; omega) (by omega) (by simp; omega)
  have m0 : bits .or .u64 0 (IntKind.u64.wrap (d * 2 ^ 0)) = d := (or_up 0 0 d (by omega) (by decide) (by omega) (by simp; omega)).trans (by simp)
  have m1 := or_up 24 d e (by omega) (by simp; omega) (by omega) (by simp; omega)
  have m2 := or_up 36 (d + e * 16777216) f (by omega) (by simp; omega) (by omega) (by simp; omega)
  have q1 : ((2 ^ 4 : Nat) : Int) = 16 := rfl
  have q2 : ((2 ^ 8 : Nat) : Int) = 256 := rfl
  have q3 : ((2 ^ 24 : Nat) : Int) = 16777216 := rfl
  have q4 : ((2 ^ 40 : Nat) : Int) = 1099511627776 := rfl
  have q5 : ((2 ^ 36 : Nat) : Int) = 68719476736 := rfl
  rw [q1] at k1
  rw [q2] at k2
  rw [q3] at k3 m1
  rw [q4] at k4
  rw [q5] at m2
  rw [e8]
  show (bits .or .u64 (bits .or .u64 (bits .or .u64 (bits .or .u64 (bits .or .u64 0 (IntKind.u64.wrap (a * 2 ^ 0))) (IntKind.u64.wrap (c * 2 ^ 4))) (IntKind.u64.wrap (b * 2 ^ 8))) (IntKind.u64.wrap (h * 2 ^ 24))) (IntKind.u64.wrap (g * 2 ^ 40)), bits .or .u64 (bits .or .u64 (bits .or .u64 0 (IntKind.u64.wrap (d * 2 ^ 0))) (IntKind.u64.wrap (e * 2 ^ 24))) (IntKind.u64.wrap (f * 2 ^ 36))) = _
  rw [k0, k1, k2, k3, k4, m0, m1, m2]
  rfl
set_option maxRecDepth 100000 in
set_option maxHeartbeats 2000000 in
theorem encode_in (a b c d e f g h : Int) (w : World) (hT : TabG w) (hL : LaidV_laid_seisin_cap_layout w) (hd : 0 ≤ d) (hx : capB a b c d e f g h = true) :
    CallsIn Fence.wide 3 Tryd.prog 7 #[capV a b c d e f g h] w fun r w' => ∃ G : Nat, r = .returned (.tuple #[.slice (some ⟨G, 0, none⟩) 2 2, .int .i64 0]) ∧ w.heap.size ≤ G ∧ w'.heap[G]? = some (.cells #[.int .u64 (encA a b c g h), .int .u64 (encB d e f)] 22 (0, 0)) ∧ Below w.heap.size w w' := by
  obtain ⟨ba, bc, bb, bh, bg, bd, be, bf⟩ := cap_bounds hd hx
  have HX := Lib.hid hx
  have HT := Lib.hid hT
  have HL := Lib.hid hL
  have hmk := make22
  clear hx hT hL
  refine callsIn_of_wp_marks Tryd.func7 rfl trivial ?_ rfl
  simp only [Tryd.ntmps7, List.size_toArray, List.length_cons, List.length_nil, Nat.reduceAdd, Nat.reduceSub, Array.replicate_succ, Array.replicate_zero, List.push_toArray, List.append_toArray, List.nil_append, List.cons_append]
  gi_wp2_with (refine ⟨trivial, ?_⟩; first
    | (gi_at_call 11; refine (callsIn_wide.2 (capMay a b c d e f g h _ (HT.out.call (bal (Below.refl _ _) _)) (by omega))).mono ?_; rw [HX.out]; rintro r w1 ⟨rfl, hb1⟩; obtain ⟨hc1, hf1⟩ := bcell hb1; have hz1 : w.heap.size < w1.heap.size := (by have := hb1.size; simp at this; omega))
    | (gi_at_call 21; refine (fields_in _ a b c d e f g h _ ba bc bb bh bg be bf).mono ?_; rintro r w2 ⟨rfl, rfl⟩))
  obtain ⟨N1, hN1⟩ : ∃ x, w1.heap.size = x := ⟨_, rfl⟩
  rw [hN1] at hz1
  obtain ⟨wL, hwL⟩ : ∃ x, x = ((((w1.alloc (.cells #[.int .u64 0, .int .u64 0] 22)).alloc (.cells #[.slice (some ⟨w1.heap.size, 0, none⟩) 2 2] 25)).alloc (.cells #[.int .i64 a, .int .i64 b, .int .i64 c, .int .u64 d, .int .i64 e, .int .i64 f, .int .i64 g, .int .i64 h] 24)).alloc (.cells ((capL a b c d e f g h).map u64V).toArray 53)) := ⟨_, rfl⟩
  rw [← hwL]
  have hsz : wL.heap.size = N1 + 4 := by rw [hwL, ← hN1]; simp
  have hBw1 : Below w1.heap.size w1 wL := hwL ▸ bal (bal (bal (bal (Below.refl _ _) _) _) _) _
  have hBw : Below w.heap.size w wL := bgo (bgo (bal (Below.refl _ _) _) hb1) hBw1
  have b0 : wL.heap[N1]? = some (.cells #[.int .u64 0, .int .u64 0] 22 (0, 0)) := by
    rw [hwL, ← hN1]
    rw [Below.heap_alloc _ _ _ (by first | (simp; done) | (simp; omega)), Below.heap_alloc _ _ _ (by first | (simp; done) | (simp; omega)), Below.heap_alloc _ _ _ (by simp)]
    exact World.alloc_heap_new w1 _
  have b1 : wL.heap[N1 + 1]? = some (.cells #[.slice (some ⟨N1, 0, none⟩) 2 2] 25 (0, 0)) := by
    rw [hwL, ← hN1]
    rw [Below.heap_alloc _ _ _ (by first | (simp; done) | (simp; omega)), Below.heap_alloc _ _ _ (by simp)]
    have := World.alloc_heap_new (w1.alloc (.cells #[.int .u64 0, .int .u64 0] 22)) (.cells #[.slice (some ⟨w1.heap.size, 0, none⟩) 2 2] 25)
    rwa [World.size_alloc] at this
  have b3 : wL.heap[N1 + 3]? = some (.cells ((capL a b c d e f g h).map u64V).toArray 53 (0, 0)) := by
    rw [hwL, ← hN1]
    have := World.alloc_heap_new (((w1.alloc (.cells #[.int .u64 0, .int .u64 0] 22)).alloc (.cells #[.slice (some ⟨w1.heap.size, 0, none⟩) 2 2] 25)).alloc (.cells #[.int .i64 a, .int .i64 b, .int .i64 c, .int .u64 d, .int .i64 e, .int .i64 f, .int .i64 g, .int .i64 h] 24)) (.cells ((capL a b c d e f g h).map u64V).toArray 53)
    simpa only [World.size_alloc] using this
  have hv : ∀ j, j < 8 → wL.cell? ⟨N1 + 3, j, none⟩ = some (.int .u64 (capFn a b c d e f g h j)) := by
    intro j hj
    rw [cell_of_row _ _ j _ _ _ b3]
    obtain rfl | rfl | rfl | rfl | rfl | rfl | rfl | rfl : j = 0 ∨ j = 1 ∨ j = 2 ∨ j = 3 ∨ j = 4 ∨ j = 5 ∨ j = 6 ∨ j = 7 := by omega
    all_goals rfl
  have hLL := HL.out.call hBw
  have hw0 := hBw.size
  clear hwL b3 hc1 hf1 hmk
  obtain ⟨V, hV⟩ : ∃ V, capFn a b c d e f g h = V := ⟨_, rfl⟩
  rw [hV] at hv
  have V0 : ∀ x : Fin 8, 0 ≤ V x.1 ∧ V x.1 < 16777216 := by
    intro x
    rw [← hV]
    have h8 := x.2
    obtain h0 | h0 | h0 | h0 | h0 | h0 | h0 | h0 : x.1 = 0 ∨ x.1 = 1 ∨ x.1 = 2 ∨ x.1 = 3 ∨ x.1 = 4 ∨ x.1 = 5 ∨ x.1 = 6 ∨ x.1 = 7 := by omega
    all_goals (rw [h0]; simp [capFn, capL]; omega)
  rw [hN1]
  refine wpIn_rangeFunc_ownH (α := Fin 8) rfl (by decide) (gf := 32) (lb := #[.pointer (some ⟨N1 + 3, 0, none⟩)]) rfl trivial (enters_of Tryd.func32 (by kernel_rfl) rfl)
    (encs := encF V) (Kp := KpF (N1 + 3)) (S := fun xs => xs = frs 8 8) (Sp := fun pre => True) (N := 8) (w0 := wL) (fields1_seq 1 (N1 + 3) V wL hLL hv (by omega))
    (fun h k => h.trans k) ?hKb (Below.refl _ _) (fun _ => rfl) (EncI V N1 wL) (fun _ _ _ => False) (encI_own V N1 wL (by omega)) (fun _ _ _ _ _ h _ _ => h) ⟨b0, b1, Below.refl _ _⟩
    (fun x a' W => ∃ Bf, a' = { tmps := #[capV a b c d e f g h, .pointer (some ⟨w.heap.size, 0, none⟩), .slice none 0 0, .int .i64 0, .pointer (some ⟨N1 + 1, 0, none⟩), .pointer (some ⟨Bf, 0, none⟩), .int .u64 (V x.1), capV a b c d e f g h, .bool true, .bool false, .slice (some ⟨N1, 0, none⟩) 2 2, capV a b c d e f g h, .func (.func 32) #[] #[.pointer (some ⟨N1 + 1 + 1 + 1, 0, none⟩)], .agg #[.int .i64 (layP x.1).1, .int .i64 (layP x.1).2.1, .int .i64 (layP x.1).2.2], .int .u64 (V x.1), undef, undef, undef, undef, undef, undef, undef, undef, undef, undef, undef, undef], defers := [] } ∧ W.heap[Bf]? = some (.cells #[.int .i64 (layP x.1).1, .int .i64 (layP x.1).2.1, .int .i64 (layP x.1).2.2] 48 (0, 0)) ∧ N1 + 4 ≤ Bf) ?hAx ?hassign ?hbody ?hdone ?hstop
  case hKb =>
    intro W l o o' hl ho _ _
    exact ⟨heap_putObj_ne8 (by omega), by simp⟩
  case hAx =>
    rintro x a' _ A C row ⟨Bf, h1, h2, h3⟩ hg hr
    refine ⟨Bf, h1, (hg.block Bf (Array.getElem?_eq_some_iff.1 h2).1 (fun e => ?_)).trans h2, h3⟩
    obtain ⟨_, o, ho, hk⟩ := hr Bf e.symm
    rw [h2] at ho
    cases ho
    cases hk
  case hassign =>
    intro l pre x W K hI hK
    have hs := hI.2.2.size
    gi_wp2
    exact hK _ _ ((KeepsOthers.alloc W _).from _) ⟨Below.heap_alloc _ _ _ (by omega), by simp⟩ ⟨(Below.heap_alloc _ _ _ (by omega)).trans hI.1, (Below.heap_alloc _ _ _ (by omega)).trans hI.2.1, hI.2.2.alloc (by omega) _⟩ ⟨W.heap.size, rfl, World.alloc_heap_new _ _, by omega⟩
  case hbody =>
    rintro l pre x a' W hl hlo ⟨i0, i1, hBI⟩ ⟨Bf, rfl, hf, hBf⟩ hlen
    have hs := hBI.size
    have hst : foldE V (pre ++ [x]) = stepE V (foldE V pre) x := by unfold foldE; rw [List.foldl_append]; rfl
    obtain ⟨⟨s1, s2⟩, hss⟩ : ∃ s, foldE V pre = s := ⟨_, rfl⟩
    rw [hss] at hst i0
    obtain ⟨q1, q2⟩ := lay_ok x
    have hvx := V0 x
    unfold stepE at hst
    obtain ⟨⟨p1, p2, p3⟩, hp⟩ : ∃ p, layP x.1 = p := ⟨_, rfl⟩
    rw [hp] at hf hst q1 q2
    simp only [hp]
    obtain ⟨y, hy⟩ : ∃ y, V x.1 = y := ⟨_, rfl⟩
    rw [hy] at hst hvx ⊢
    simp only at hst q1 q2 hf i0
    have c0 := cell_of_row _ N1 0 _ _ _ i0
    have c1 := cell_of_row _ N1 1 _ _ _ i0
    have cz := cell_of_row _ (N1 + 1) 0 _ _ _ i1
    have f0 := cell_of_row _ Bf 0 _ _ _ hf
    have f1 := cell_of_row _ Bf 1 _ _ _ hf
    have fz0 : W.frozen? ⟨N1, 0, none⟩ = false := by simp [World.frozen?, i0]
    have fz1 : W.frozen? ⟨N1, 1, none⟩ = false := by simp [World.frozen?, i0]
    simp at c0 c1 cz f0 f1
    have HST := Lib.hid hst
    have I0 := Lib.hid i0
    have I1 := Lib.hid i1
    have BI := Lib.hid hBI
    clear hst i0 i1 hBI hss hp hy hf hlo
    have q2' : (p2 : Int) < 64 := by omega
    rcases q1 with rfl | rfl
    all_goals simp only [Int.natCast_zero, Int.natCast_one, if_true] at f0 HST
    · gi_wp2
      refine wpIn_region_still_tail 11 (by kernel_rfl) (by kernel_rfl) ?_
      simp only [List.take_succ_cons, List.take_zero, List.drop_succ_cons, List.drop_zero]
      iterate 11 (refine wpStill_step (fun K hK => ?_); go_simp; refine hK _ ?_; clear hK K)
      refine wpStill_nil ?_
      change wpListIn _ _ _ _ _ _ _ W.drew
      gi_wp2
      exact ⟨((KeepsOthers.setCell _ _ _).trans (KeepsOthers.drew _)).from _, kpF_set (by omega), encI_set0 I0.out I1.out BI.out HST.out⟩
    · gi_wp2
      refine wpIn_region_still_tail 11 (by kernel_rfl) (by kernel_rfl) ?_
      simp only [List.take_succ_cons, List.take_zero, List.drop_succ_cons, List.drop_zero]
      iterate 11 (refine wpStill_step (fun K hK => ?_); go_simp; refine hK _ ?_; clear hK K)
      refine wpStill_nil ?_
      change wpListIn _ _ _ _ _ _ _ W.drew
      gi_wp2
      exact ⟨((KeepsOthers.setCell _ _ _).trans (KeepsOthers.drew _)).from _, kpF_set (by omega), encI_set1 I0.out I1.out BI.out HST.out⟩
  case hdone =>
    rintro D xs W hD rfl ⟨i0, i1, hBI⟩ hK
    have hfa := foldE_all (a := a) (b := b) (c := c) (d := d) (e := e) (f := f) (g := g) (h := h) ba bc bb bh bg bd be bf
    rw [← hV] at i0
    rw [hfa] at i0
    have cz := cell_of_row _ (N1 + 1) 0 _ _ _ i1
    simp at cz
    have BW : Hid (Below w.heap.size w W) := Lib.hid (hBw.trans (hBI.mono (by omega)))
    have I0 := Lib.hid i0
    clear i0 i1 hfa hBI
    gi_wp2
    refine ⟨by simp, .inl ⟨_, _, rfl, run_takeDeferred hK, ?_⟩⟩
    refine ⟨.tuple #[.slice (some ⟨N1, 0, none⟩) 2 2, .int .i64 0], ?_, N1, rfl, by omega, (heap_putObj_ne8 (by omega)).trans I0.out, below_put8 BW.out (by omega)⟩
    simp [results, Tryd.results7, go_sem]
  case hstop =>
    rintro D c pre W hD _ h _
    exact h.elim
end Go.Proofs.YtoepbcaldlgnjaaDoor
