/- package phys: Zero. -/
import Derived.Test.YtnaiepoaikabgaaMem2
import Derived.Lib.SliceRun
import Derived.Stop.RegionWithIn
namespace Go.Proofs.Ytnaiepoaikabgaa
set_option linter.unusedVariables false
set_option linter.unusedSimpArgs false
open Go.ChangeShapes Go.WideShapes Go.ChangeAt Go.RowKit Go.Shelf
attribute [local go_sem] Oper.semAt_some

/-- So many words set to 0. -/
def zeroW (m : Nat → Int) (k l : Nat) : Nat → Int := fun j => if k ≤ j ∧ j < k + l then 0 else m j
theorem mem_clear {b g n c : Nat} : ∀ (l k : Nat) (w : World) (m : Nat → Int), MemAt w b g n c m → k + l ≤ 8 * n →
    MemAt (w.setCells g k (List.replicate l (.int .u64 0))) b g n c (zeroW m k l) ∧ BlkOnly g w (w.setCells g k (List.replicate l (.int .u64 0)))
  | 0, k, w, m, h, _ => by
    have e : zeroW m k 0 = m := by
      funext j
      unfold zeroW
      rw [if_neg (by omega)]
    rw [e]
    exact ⟨h, BlkOnly.refl _ _⟩
  | l + 1, k, w, m, h, hk => by
    have e : zeroW m k (l + 1) = zeroW (updM m k 0) (k + 1) l := by
      funext j
      unfold zeroW updM
      by_cases c1 : j = k
      · rw [if_pos (by omega), if_neg (by omega), if_pos c1]
      · by_cases c2 : k ≤ j ∧ j < k + (l + 1)
        · rw [if_pos c2, if_pos (by omega)]
        · rw [if_neg c2, if_neg (by omega), if_neg c1]
    rw [e]
    obtain ⟨h1, h2⟩ := mem_clear l (k + 1) (w.setCell ⟨g, k, none⟩ (.int .u64 0)) (updM m k 0) (mem_set h (by omega) ⟨by decide, by decide⟩) (by omega)
    exact ⟨h1, ((BlkOnly.refl g w).set k (.int .u64 0)).trans h2⟩
abbrev encR (g f l0 : Nat) (x : Fin l0) : Array Value := #[.pointer (some ⟨g, (f + x.1) * 8, none⟩)]
/-- The first k numbers below a bound. -/
def frs (l0 k : Nat) : List (Fin l0) := (List.finRange l0).take k
theorem frs_succ {l0 k : Nat} (h : k < l0) : frs l0 (k + 1) = frs l0 k ++ [⟨k, h⟩] := by
  unfold frs
  rw [List.take_add_one, List.getElem?_eq_getElem (by simpa using h)]
  simp
theorem frs_len {l0 k : Nat} (h : k ≤ l0) : (frs l0 k).length = k := by unfold frs; simp; omega
theorem frs_val (l0 : Nat) : ∀ k, k ≤ l0 → (frs l0 k).map Fin.val = List.range k
  | 0, _ => by simp [frs]
  | k + 1, h => by rw [frs_succ h, List.map_append, frs_val l0 k (by omega), List.range_succ]; rfl
/-- What the iterator over frames finds again. -/
def KpR (b p : Nat) (W W' : World) : Prop := W'.heap[b]? = W.heap[b]? ∧ W'.heap[p]? = W.heap[p]? ∧ W'.heap[p + 1]? = W.heap[p + 1]? ∧ W'.heap[p + 2]? = W.heap[p + 2]? ∧ W.heap.size ≤ W'.heap.size
theorem KpR.trans {b p : Nat} {A B C : World} (h : KpR b p A B) (k : KpR b p B C) : KpR b p A C := ⟨k.1.trans h.1, k.2.1.trans h.2.1, k.2.2.1.trans h.2.2.1, k.2.2.2.1.trans h.2.2.2.1, Nat.le_trans h.2.2.2.2 k.2.2.2.2⟩
def TwoWays (A B : World → Prop) (t : Bool) (W : World) : Prop := (t = true → A W) ∧ (t = false → B W)
theorem two_ways {A B C : World → Prop} {e : Ending} {W : World} (h : (e = .returned (.bool true) ∧ A W ∧ B W) ∨ (e = .returned (.bool false) ∧ C W)) : ∃ t, e = .returned (.bool t) ∧ TwoWays (fun W => A W ∧ B W) C t W := by
  rcases h with ⟨h1, h2⟩ | ⟨h1, h2⟩
  · exact ⟨true, h1, fun _ => h2, fun e => by cases e⟩
  · exact ⟨false, h1, (fun e => by cases e), fun _ => h2⟩
theorem runIn_ok (q : Nat) (p : Option Addr) (f n : Int) (w : World) :
    CallsIn Fence.wide q Try.prog 28 #[.pointer p, .int .i64 f, .int .i64 n] w fun e w' => e = .returned (.func (.func 32) #[] #[.pointer (some ⟨w.heap.size + 2, 0, none⟩), .pointer (some ⟨w.heap.size, 0, none⟩), .pointer (some ⟨w.heap.size + 1, 0, none⟩)]) ∧ w' = ((w.alloc (.cells #[.pointer p] 24)).alloc (.cells #[.int .i64 f] 3)).alloc (.cells #[.int .i64 n] 3) := by
  refine callsIn_of_wp Try.func28 rfl trivial ?_ rfl
  simp only [Try.ntmps28, List.size_toArray, List.length_cons, List.length_nil, Nat.reduceAdd, Nat.reduceSub, Array.replicate_succ, Array.replicate_zero, List.push_toArray, List.append_toArray, List.nil_append, List.cons_append]
  gi_wp2
  go_ret
  exact ⟨rfl, rfl⟩
set_option maxHeartbeats 1000000 in
theorem run1_seq (q b g n c p f l0 : Nat) (w0 : World) (hb : w0.cell? ⟨b, 0, none⟩ = some (.slice (some ⟨g, 0, none⟩) n c)) (hfl : f + l0 ≤ n) (hn : n ≤ 64) (hm : w0.cell? ⟨p, 0, none⟩ = some (.pointer (some ⟨b, 0, none⟩))) (hf : w0.cell? ⟨p + 1, 0, none⟩ = some (.int .i64 f)) (hl : w0.cell? ⟨p + 2, 0, none⟩ = some (.int .i64 l0)) (hbl : b < w0.heap.size) (hpl : p + 2 < w0.heap.size) :
    SeqStopsK Fence.wide (q + 1) Try.prog 32 #[.pointer (some ⟨p + 2, 0, none⟩), .pointer (some ⟨p, 0, none⟩), .pointer (some ⟨p + 1, 0, none⟩)] (encR g f l0) (KpR b p) (fun xs => xs = frs l0 l0) (fun pre => True) 64 w0 := by
  intro l J Jx W hB hAb hAx hY h0
  have hK0 : KpR b p w0 W := ⟨hB.block b hbl, hB.block p (by omega), hB.block (p + 1) (by omega), hB.block (p + 2) hpl, hB.size⟩
  have HY := Lib.hid hY
  have HAB := Lib.hid hAb
  have HBB := Lib.hid hb
  have HM := Lib.hid hm
  have HF := Lib.hid hf
  have hbn : W.cell? ⟨p + 2, 0, none⟩ = some (.int .i64 l0) := (cell_of_block hK0.2.2.2.1).trans hl
  have hWs := hB.size
  clear hY hAb hAx hB hb hm hf hl
  refine callsIn_of_wp Try.func32 rfl trivial ?_ rfl
  simp only [Try.ntmps32, List.size_toArray, List.length_cons, List.length_nil, Nat.reduceAdd, Nat.reduceSub, Array.replicate_succ, Array.replicate_zero, List.push_toArray, List.append_toArray, List.nil_append, List.cons_append]
  gi_wp2
  clear hbn
  gi_loopw [7] (fun i wr => ∃ k : Nat, k ≤ l0 ∧ i = .int .i64 k ∧ J (frs l0 k) wr ∧ KpR b p w0 wr ∧ W.heap.size ≤ wr.heap.size) (fun i _ => l0 - (intOf i).toNat)
  case atStart => exact ⟨0, by omega, rfl, h0, hK0, Nat.le_refl _⟩
  case round =>
    obtain ⟨k, hk, rfl, hJ, hK, hsw⟩ := hrel
    by_cases hlt : k < l0
    · have hlt' : (k : Int) < l0 := by omega
      have c0 : wr.cell? ⟨b, 0, none⟩ = some (.slice (some ⟨g, 0, none⟩) n c) := (cell_of_block hK.1).trans HBB.out
      have c1 : wr.cell? ⟨p, 0, none⟩ = some (.pointer (some ⟨b, 0, none⟩)) := (cell_of_block hK.2.1).trans HM.out
      have c2 : wr.cell? ⟨p + 1, 0, none⟩ = some (.int .i64 f) := (cell_of_block hK.2.2.1).trans HF.out
      have hs := frs_succ hlt
      have HS := Lib.hid hs
      have hJd : J (frs l0 k) wr.drew := HAB.out _ wr wr.drew none hJ ⟨rfl, rfl, rfl, Nat.le_refl _, fun _ _ _ => rfl⟩ (fun r e => by cases e)
      obtain ⟨fn, tmps, assign, body, hy, hR⟩ := HY.out _ (⟨k, hlt⟩ : Fin l0) wr.drew hJd (by rw [frs_len hk]; omega)
      (try dsimp only at hy)
      have HR := Lib.hid hR
      have e2 : ((f : Int) + k).toNat = f + k := by omega
      have i1 : 0 ≤ (f : Int) + k := by omega
      have i2 : (f : Int) + k < n := by omega
      have i3 : IntKind.i64.wrap ((f : Int) + k) = (f : Int) + k := IntWalk.i64_in _ (by omega)
      clear hR hs
      gi_wp2
      gi_region_with (first | (refine (HR.out.mono fun e W' h => two_ways h).mono ?_; rintro e W' ⟨t, rfl, ht⟩))
      all_goals
        cases t
        · have hJx := ht.2 rfl
          gi_wp2
          first
            | refine bodyPost_ret (results_none rfl _ _ _) rfl ?_
            | go_end0
          exact ⟨⟨_, rfl⟩, .inr ⟨_, trivial, hJx⟩⟩
        · obtain ⟨hJ', hK'⟩ := ht.1 rfl
          gi_wp2
          go_roundw
          case rel => exact ⟨k + 1, by omega, by go_num, by rw [HS.out]; exact hJ', hK.trans hK', by have := hK'.2.2.2.2; simp at this; omega⟩
          case measure => simp [intOf]; omega
    · obtain rfl : k = l0 := by omega
      gi_wp2
      go_end0
      exact ⟨⟨_, rfl⟩, .inl ⟨_, rfl, hJ⟩⟩
def foldZ (f : Nat) (m : Nat → Int) (pre : List Nat) : Nat → Int := pre.foldl (fun m x => zeroW m ((f + x) * 8) 8) m
theorem foldZ_range (f : Nat) (m : Nat → Int) : ∀ l, foldZ f m (List.range l) = zeroW m (8 * f) (8 * l)
  | 0 => by
    funext j
    simp only [foldZ, List.range_zero, List.foldl_nil, zeroW]
    rw [if_neg (by omega)]
  | l + 1 => by
    rw [List.range_succ]
    unfold foldZ
    rw [List.foldl_append]
    have ih := foldZ_range f m l
    unfold foldZ at ih
    rw [ih]
    funext j
    simp only [List.foldl_cons, List.foldl_nil, zeroW]
    by_cases c1 : (f + l) * 8 ≤ j ∧ j < (f + l) * 8 + 8
    · rw [if_pos c1, if_pos (by omega)]
    · rw [if_neg c1]
      by_cases c2 : 8 * f ≤ j ∧ j < 8 * f + 8 * l
      · rw [if_pos c2, if_pos (by omega)]
      · rw [if_neg c2, if_neg (by omega)]
theorem heap_putObj_ne {W : World} {k b : Nat} {o : Obj} (h : k ≠ b) : (W.putObj b o).heap[k]? = W.heap[k]? := by
  simp [World.putObj, Array.getElem?_setIfInBounds, h.symm]
set_option maxRecDepth 100000 in
set_option maxHeartbeats 2000000 in
theorem zero_in (w : World) (b g n c f l0 : Nat) (m : Nat → Int) (h : MemAt w b g n c m) (hf : f < n) (hfl : f + l0 ≤ n) :
    CallsIn Fence.wide 3 Try.prog 15 #[.pointer (some ⟨b, 0, none⟩), .int .i64 f, .int .i64 l0] w fun e w' => e = .returned (.int .i64 0) ∧ MemAt w' b g n c (zeroW m (8 * f) (8 * l0)) ∧ BlkOnly g w w' := by
  have H := Lib.hid h
  have hd := h.hd
  have hlb := h.lb
  have hlg := h.lg
  have hne := h.ne
  have hn := h.n64
  have hcap := h.cap
  have i1 : (f : Int) < n := by omega
  have i2 : ¬ (n : Int) - f < l0 := by omega
  have i3 : (decide ((n : Int) - f < l0)) = false := by simp; omega
  clear h
  refine callsIn_of_wp_marks Try.func15 rfl trivial ?_ rfl
  simp only [Try.ntmps15, List.size_toArray, List.length_cons, List.length_nil, Nat.reduceAdd, Nat.reduceSub, Array.replicate_succ, Array.replicate_zero, List.push_toArray, List.append_toArray, List.nil_append, List.cons_append]
  gi_wp2_with (refine ⟨trivial, ?_⟩; first
    | (gi_at_call 27; refine (callsIn_wide.2 (has_any _ b g n c m f true H.out (decide_eq_true ⟨by omega, i1⟩))).mono ?_; rintro e w1 ⟨rfl, rfl⟩)
    | (gi_at_call 28; refine (runIn_ok _ _ _ _ _).mono ?_; rintro e w3 ⟨rfl, rfl⟩))
  obtain ⟨wL, hwL⟩ : ∃ x, x = (((w.alloc (.cells #[.pointer (some ⟨b, 0, none⟩)] 24)).alloc (.cells #[.int .i64 f] 3)).alloc (.cells #[.int .i64 l0] 3)) := ⟨_, rfl⟩
  rw [← hwL]
  have hsz : wL.heap.size = w.heap.size + 3 := by rw [hwL]; simp
  have hBw : Below w.heap.size w wL := hwL ▸ bal (bal (bal (Below.refl _ _) _) _) _
  have e1 : wL.cell? ⟨w.heap.size, 0, none⟩ = some (.pointer (some ⟨b, 0, none⟩)) := by rw [hwL]; go_simp
  have e2 : wL.cell? ⟨w.heap.size + 1, 0, none⟩ = some (.int .i64 f) := by rw [hwL]; go_simp
  have e3 : wL.cell? ⟨w.heap.size + 2, 0, none⟩ = some (.int .i64 l0) := by rw [hwL]; go_simp
  have hM1 := H.out.call hBw
  have hl64 : l0 ≤ 64 := by omega
  clear hwL
  refine wpIn_rangeFunc_ownF (α := Fin l0) rfl (by decide) (gf := 32) (lb := #[.pointer (some ⟨w.heap.size + 2, 0, none⟩), .pointer (some ⟨w.heap.size, 0, none⟩), .pointer (some ⟨w.heap.size + 1, 0, none⟩)]) rfl trivial (enters_of Try.func32 (by kernel_rfl) rfl)
    (encs := encR g f l0) (Kp := KpR b w.heap.size) (S := fun xs => xs = frs l0 l0) (Sp := fun pre => True) (N := 64) (w0 := wL) (run1_seq 1 b g n c w.heap.size f l0 wL hM1.hd hfl hn e1 e2 e3 (by omega) (by omega))
    (fun h k => h.trans k) ?hKb (Below.refl _ _) (fun _ => rfl) (fun pre W => MemAt W b g n c (foldZ f m (pre.map Fin.val)) ∧ BlkOnly g w W ∧ w.heap.size + 3 ≤ W.heap.size) (fun _ _ _ => False)
    (OwnFrom.and (fun s A C row h hg hr => by
        exact h.of_blocks hg.size (hg.block b h.lb (fun e => by have := (hr b e.symm).1; omega)) (hg.block g h.lg (fun e => by have := (hr g e.symm).1; omega)))
      (fun s A C row h hg hr => ⟨⟨hg.os.trans h.1.os, hg.tape.trans h.1.tape, hg.output.trans h.1.output, Nat.le_trans h.1.size hg.size, fun k hk hn => (hg.block k (Nat.lt_of_lt_of_le hk h.1.size) (fun e => by have := (hr k e.symm).1; omega)).trans (h.1.block k hk hn)⟩, Nat.le_trans h.2 hg.size⟩))
    (fun _ _ _ _ _ h _ _ => h) ⟨hM1, BlkOnly.of_below hBw, by omega⟩
    (fun x => { tmps := #[.pointer (some ⟨b, 0, none⟩), .int .i64 f, .int .i64 l0, undef, undef, undef, .int .i64 0, .pointer (some ⟨g, (f + x.1) * 8, none⟩), .pointer (some ⟨b, 0, none⟩), .bool false, .pointer (some ⟨b, 0, none⟩), .int .i64 f, .bool true, .bool false, .bool false, .int .i64 l0, .bool (decide ((l0 : Int) < 0)), .bool (decide ((l0 : Int) < 0)), .bool (decide ((l0 : Int) < 0)), .int .i64 l0, .pointer (some ⟨b, 0, none⟩), .pointer (some ⟨b, 0, none⟩), .pointer (some ⟨b, 0, none⟩), .slice (some ⟨g, 0, none⟩) n c, .int .i64 n, .int .i64 f, .int .i64 ((n : Int) - f), .bool false, .bool (decide ((l0 : Int) < 0)), .pointer (some ⟨b, 0, none⟩), .int .i64 f, .int .i64 l0,
      .func (.func 32) #[] #[.pointer (some ⟨w.heap.size + 2, 0, none⟩), .pointer (some ⟨w.heap.size, 0, none⟩), .pointer (some ⟨w.heap.size + 1, 0, none⟩)],   .pointer (some ⟨g, (f + x.1) * 8, none⟩), undef, undef, undef], defers := [] }) ?hassign ?hbody ?hdone ?hstop
  case hKb =>
    intro W l o o' hl ho _ _
    exact ⟨heap_putObj_ne (by omega), heap_putObj_ne (by omega), heap_putObj_ne (by omega), heap_putObj_ne (by omega), by simp⟩
  case hassign =>
    intro l x W K hK
    gi_wp2
    exact hK
  case hbody =>
    rintro l pre x W ⟨hM, hBO, hZ⟩ hlen
    have hx := x.2
    have hrun := fun ty => Go.Lib.run_clear_slice (P := Try.prog) W 43 32 ty (.int .u64 0) Try.underlying43 (fun w => by kernel_rfl) rfl rfl g ((f + x.1) * 8) 8 8 (by decide) (fun j hj => by rw [hM.cells _ (by omega)]; rfl) (fun j hj => hM.free _)
    obtain ⟨h1, h2⟩ := mem_clear 8 ((f + x.1) * 8) W _ hM (by omega)
    have hck := hM.cells ((f + x.1) * 8) (by omega)
    obtain ⟨U, hU⟩ : ∃ U, U = W.setCells g ((f + x.1) * 8) (List.replicate 8 (.int .u64 0)) := ⟨_, rfl⟩
    rw [← hU] at hrun h1 h2
    have H1 := Lib.hid h1
    have H2 := Lib.hid h2
    have HM := Lib.hid hM
    clear h1 h2 hM hU hck
    gi_wp2
    have hs2 := H2.out.size
    refine ⟨?_, ⟨H2.out.block b (by omega) (by omega), H2.out.block _ (by omega) (by omega), H2.out.block _ (by omega) (by omega), H2.out.block _ (by omega) (by omega), hs2⟩, ?_, hBO.trans H2.out, by omega⟩
    · refine KeepsOthers.of_grownBy H2.out.grown (fun j o ej hj => ?_)
      cases ej
      have := HM.out.cells 0 (by omega)
      simp only [World.cell?, hj] at this
      cases o <;> simp_all [Obj.isCells]
    · have e : foldZ f m ((pre ++ [x]).map Fin.val) = zeroW (foldZ f m (pre.map Fin.val)) ((f + x.1) * 8) 8 := by simp [foldZ]
      rw [e]
      exact H1.out
  case hdone =>
    rintro D xs W hD rfl ⟨hM, hBO, hZ⟩ hK
    rw [frs_val l0 l0 (Nat.le_refl _), foldZ_range] at hM
    gi_wp2
    refine ⟨by simp, .inl ⟨_, _, rfl, run_takeDeferred hK, ?_⟩⟩
    exact ⟨.int .i64 0, by simp [results, Try.results15, go_sem], rfl, hM.of_blocks (by simp) (heap_putObj_ne (by omega)) (heap_putObj_ne (by omega)), ⟨hBO.os, hBO.tape, hBO.output, by simpa using hBO.size, fun k hk hn => (heap_putObj_ne (by omega)).trans (hBO.block k hk hn)⟩⟩
  case hstop =>
    rintro D c pre W hD _ h _
    exact h.elim
theorem zero_ok (w : World) (b g n c f l0 : Nat) (m : Nat → Int) (h : MemAt w b g n c m) (hf : f < n) (hfl : f + l0 ≤ n) :
    Calls Try.prog 15 #[.pointer (some ⟨b, 0, none⟩), .int .i64 f, .int .i64 l0] w fun e w' => e = .returned (.int .i64 0) ∧ MemAt w' b g n c (zeroW m (8 * f) (8 * l0)) ∧ BlkOnly g w w' := callsIn_wide.1 (zero_in w b g n c f l0 m h hf hfl)
theorem zero_bad (w : World) (b g n c : Nat) (f l : Int) (m : Nat → Int) (h : MemAt w b g n c m) (hbad : ¬ (0 ≤ f ∧ f < n ∧ 0 ≤ l ∧ l ≤ n - f)) :
    Calls Try.prog 15 #[.pointer (some ⟨b, 0, none⟩), .int .i64 f, .int .i64 l] w fun e w' => e = .returned (.int .i64 3) ∧ w = w' := by
  have H := Lib.hid h
  have hd := h.hd
  have hn := h.n64
  have hcap := h.cap
  clear h
  by_cases hh : 0 ≤ f ∧ f < n
  · obtain ⟨h0, h1⟩ := hh
    by_cases h2 : l < 0
    · clear hbad
      go_enter Try.func15, Try.ntmps15
      go_wp2_with (first
        | (go_at_call 27; refine (has_any _ b g n c m f true H.out (decide_eq_true ⟨h0, h1⟩)).mono ?_; rintro e w1 ⟨rfl, rfl⟩))
      go_ret
      exact ⟨rfl, rfl⟩
    · have h3 : (n : Int) - f < l := by omega
      clear hbad
      go_enter Try.func15, Try.ntmps15
      go_wp2_with (first
        | (go_at_call 27; refine (has_any _ b g n c m f true H.out (decide_eq_true ⟨h0, h1⟩)).mono ?_; rintro e w1 ⟨rfl, rfl⟩))
      go_ret
      exact ⟨rfl, rfl⟩
  · have HF := Lib.hid (decide_eq_false hh)
    clear hbad hh
    go_enter Try.func15, Try.ntmps15
    go_wp2_with (first
      | (go_at_call 27; refine (has_any _ b g n c m f false H.out HF.out).mono ?_; rintro e w1 ⟨rfl, rfl⟩))
    go_ret
    exact ⟨rfl, rfl⟩
end Go.Proofs.Ytnaiepoaikabgaa
