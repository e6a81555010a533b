/- package cores: New. -/
import Derived.Test.YtedapbliebiblaaCo1
import Derived.LoopTactic
import Derived.Outline
namespace Go.Proofs.Ytedapbliebiblaa
set_option linter.unusedVariables false
set_option linter.unusedSimpArgs false
open Go.ChangeShapes Go.WideShapes Go.ChangeAt Go.RowKit Go.Shelf

theorem infoC : (Try.prog.info? 78).map (fun i => (i.zero, i.size, i.bytes)) = some (some (.agg #[.int .i64 0, .int .i64 0, .pointer none]), 3, 24) := by kernel_rfl
def zrowC (n : Nat) : List Value := (List.range (n * 3)).map fun j => if j % 3 = 2 then .pointer none else .int .i64 0
theorem zeros_core (n : Nat) (h : n ≤ 3) : (madeCells (Value.agg #[.int .i64 0, .int .i64 0, .pointer none]).cells (n * 3)).toList = zrowC n := by
  apply List.ext_getElem?
  intro j
  unfold zrowC
  by_cases hj : j < n * 3
  · rw [List.getElem?_map, List.getElem?_range hj, Array.getElem?_toList]
    unfold madeCells
    rw [Array.getElem?_map, Array.getElem?_range, if_pos hj]
    simp only [Option.map_some, Option.some.injEq]
    have h8 : j % 3 = 0 ∨ j % 3 = 1 ∨ j % 3 = 2 := by omega
    have hsz : (#[Value.int .i64 0, .int .i64 0, .pointer none] : Array Value).size = 3 := rfl
    show (#[Value.int .i64 0, .int .i64 0, .pointer none] : Array Value)[j % 3]! = _
    rcases h8 with h8 | h8 | h8 <;> rw [h8] <;> rfl
  · rw [List.getElem?_eq_none (by simp [size_madeCells]; omega), List.getElem?_eq_none (by simp; omega)]
theorem zrow_at {n i : Nat} (h : i < n) (hn : n ≤ 3) : (zrowC n)[i * 3]? = some (.int .i64 0) ∧ (zrowC n)[i * 3 + 1]? = some (.int .i64 0) ∧ (zrowC n)[i * 3 + 2]? = some (.pointer none) := by
  unfold zrowC
  refine ⟨?_, ?_, ?_⟩
  all_goals
    rw [List.getElem?_map, List.getElem?_range (by omega)]
    simp
  all_goals omega
/-- Cores of which j are laid. -/
structure PartAt (w : World) (b g n j : Nat) (T : Nat → Nat) : Prop where
  hd : w.cell? ⟨b, 0, none⟩ = some (.slice (some ⟨g, 0, none⟩) n n)
  row : ∀ i, i < j → w.cell? ⟨g, i * 3, none⟩ = some (.int .i64 (-1)) ∧ w.cell? ⟨g, i * 3 + 1, none⟩ = some (.int .i64 0) ∧ w.cell? ⟨g, i * 3 + 2, none⟩ = some (.pointer (some ⟨T i, 0, none⟩))
  rest : ∀ i, j ≤ i → i < n → w.cell? ⟨g, i * 3, none⟩ = some (.int .i64 0) ∧ w.cell? ⟨g, i * 3 + 1, none⟩ = some (.int .i64 0) ∧ w.cell? ⟨g, i * 3 + 2, none⟩ = some (.pointer none)
  free : ∀ i, w.frozen? ⟨g, i, none⟩ = false
  tlb : ∀ i, i < j → TlbAt w (T i) S0 ∧ b < T i ∧ g < T i
  dist : ∀ i k, i < k → k < j → T i < T k
  ne : b ≠ g
  lb : b < w.heap.size
  lg : g < w.heap.size
theorem PartAt.step {wr w3 : World} {b g n j : Nat} {T : Nat → Nat} (h : PartAt wr b g n j T) (hj : j < n) {t : Nat} (hb : Below wr.heap.size wr w3) (ht : TlbAt w3 t S0) (ht0 : wr.heap.size ≤ t) :
    PartAt (((w3.setCell ⟨g, j * 3, none⟩ (.int .i64 (-1))).setCell ⟨g, j * 3 + 1, none⟩ (.int .i64 0)).setCell ⟨g, j * 3 + 2, none⟩ (.pointer (some ⟨t, 0, none⟩))) b g n (j + 1) (fun i => if i = j then t else T i) := by
  have hlg := h.lg
  have hlb := h.lb
  have hc := fun o => hb.cell (p := ⟨g, o, none⟩) hlg
  have hcb := (hb.cell (p := ⟨b, 0, none⟩) hlb).trans h.hd
  obtain ⟨z0, z1, z2⟩ := h.rest j (Nat.le_refl _) hj
  refine ⟨?_, fun i hi => ?_, fun i hi1 hi2 => ?_, fun i => ?_, fun i hi => ?_, fun i k hik hk => ?_, h.ne, by simp; exact Nat.lt_of_lt_of_le hlb hb.size, by simp; exact Nat.lt_of_lt_of_le hlg hb.size⟩
  · rw [World.cell?_setCell_other, World.cell?_setCell_other, World.cell?_setCell_other, hcb]
    all_goals (intro e; simp only [Addr.mk.injEq] at e; exact h.ne e.1.symm)
  · by_cases e : i = j
    · subst e
      simp only [if_true]
      refine ⟨?_, ?_, ?_⟩ <;> simp [go_sem, hc, z0, z1, z2]
    · simp only [if_neg e]
      obtain ⟨a0, a1, a2⟩ := h.row i (by omega)
      refine ⟨?_, ?_, ?_⟩
      all_goals
        rw [World.cell?_setCell_other, World.cell?_setCell_other, World.cell?_setCell_other, hc]
        · assumption
        all_goals (intro e2; simp only [Addr.mk.injEq, true_and, and_true] at e2; omega)
  · obtain ⟨a0, a1, a2⟩ := h.rest i (by omega) hi2
    refine ⟨?_, ?_, ?_⟩
    all_goals
      rw [World.cell?_setCell_other, World.cell?_setCell_other, World.cell?_setCell_other, hc]
      · assumption
      all_goals (intro e2; simp only [Addr.mk.injEq, true_and, and_true] at e2; omega)
  · have := (hb.frozen (p := ⟨g, i, none⟩) hlg).trans (h.free i)
    simp [go_sem, this]
  · have far : ∀ {x : Nat}, TlbAt w3 x S0 → g ≠ x → TlbAt (((w3.setCell ⟨g, j * 3, none⟩ (.int .i64 (-1))).setCell ⟨g, j * 3 + 1, none⟩ (.int .i64 0)).setCell ⟨g, j * 3 + 2, none⟩ (.pointer (some ⟨t, 0, none⟩))) x S0 := fun hx hg => hx.of_block (by simp) (by rw [Go.heap_setCell_other _ _ _ _ (Ne.symm hg), Go.heap_setCell_other _ _ _ _ (Ne.symm hg), Go.heap_setCell_other _ _ _ _ (Ne.symm hg)])
    by_cases e : i = j
    · subst e
      simp only [if_true]
      exact ⟨far ht (by omega), by omega, by omega⟩
    · simp only [if_neg e]
      obtain ⟨a0, a1, a2⟩ := h.tlb i (by omega)
      exact ⟨far (a0.of_block hb.size (hb.block _ a0.lt)) (by omega), a1, a2⟩
  · by_cases e : k = j
    · subst e
      simp only [if_true, if_neg (Nat.ne_of_lt hik)]
      have := (h.tlb i hik).1.lt
      omega
    · simp only [if_neg e, if_neg (show i ≠ j by omega)]
      exact h.dist i k hik (by omega)
theorem PartAt.done {w : World} {b g n : Nat} {T : Nat → Nat} (h : PartAt w b g n n T) (h1 : 1 ≤ n) (h3 : n ≤ 3) : CoresAt w b g n n (fun _ => -1) (fun _ => 0) T (fun _ => S0) :=
  ⟨h.hd, h.row, h.free, fun i hi => (h.tlb i hi).1, fun _ _ => good_S0, fun _ _ => .inl ⟨rfl, rfl⟩, fun i j hi hj e => by
    rcases Nat.lt_or_gt_of_ne e with e | e
    · exact Nat.ne_of_lt (h.dist i j e hj)
    · exact Ne.symm (Nat.ne_of_lt (h.dist j i e hi)), fun i hi => by have := h.tlb i hi; omega, h.ne, h.lb, h.lg, h1, h3, Nat.le_refl _⟩
set_option maxRecDepth 100000 in
set_option maxHeartbeats 2000000 in
theorem cnew_ok (w : World) (n : Nat) (h1 : 1 ≤ n) (h3 : n ≤ 3) :
    Calls Try.prog 10 #[.int .i64 n] w fun e w' => ∃ b g T, e = .returned (.tuple #[.pointer (some ⟨b, 0, none⟩), .int .i64 0]) ∧ CoresAt w' b g n n (fun _ => -1) (fun _ => 0) T (fun _ => S0) ∧ w.heap.size ≤ b ∧ w.heap.size ≤ g ∧ (∀ i, i < n → w.heap.size ≤ T i) ∧ Below w.heap.size w w' := by
  obtain ⟨i0, hi, hz0, hz1, hz2⟩ := info_parts infoC
  obtain ⟨w1, hrun, hown, hgr⟩ := run_make_full (P := Try.prog) w w.heap.size 72 78 i0 _ 3 Try.underlying72 hi hz0 hz1 .i64 .i64 n (by rw [hz2]; omega) (by unfold maxLen; omega) (Nat.le_refl _)
  rw [zeros_core n h3] at hown
  obtain ⟨g, c, hv, hc1, hc2, hg1, hg2, hfz, hcs⟩ := own_form hown (by omega)
  simp only [Value.slice.injEq, Option.some.injEq, Addr.mk.injEq, and_true, true_and] at hv
  obtain ⟨rfl, rfl⟩ := hv
  have HCS := Lib.hid hcs
  have HFZ := Lib.hid hfz
  have HGR := Lib.hid hgr
  have n3 : (n : Int) ≤ 3 := by omega
  have n1 : 1 ≤ (n : Int) := by omega
  clear hgr hown hi hz0 hz1 hz2 hcs hfz
  go_enter Try.func10, Try.ntmps10
  go_wp2
  obtain ⟨w2, hw2⟩ : ∃ x, x = w1.alloc (.cells #[.slice (some ⟨w.heap.size, 0, none⟩) n n] 74) := ⟨_, rfl⟩
  rw [← hw2]
  have hb12 : Below w1.heap.size w1 w2 := hw2 ▸ bal (Below.refl _ _) _
  have hz2 : w2.heap.size = w1.heap.size + 1 := by rw [hw2]; simp
  have hhd : w2.cell? ⟨w1.heap.size, 0, none⟩ = some (.slice (some ⟨w.heap.size, 0, none⟩) n n) := by rw [hw2, cellE]; rfl
  have hP : PartAt w2 w1.heap.size w.heap.size n 0 (fun _ => 0) := ⟨hhd, fun i hi => by omega, fun i _ hi => by
      obtain ⟨a0, a1, a2⟩ := zrow_at hi h3
      exact ⟨(hb12.cell (p := ⟨w.heap.size, i * 3, none⟩) hg2).trans (HCS.out _ _ a0), (hb12.cell (p := ⟨w.heap.size, i * 3 + 1, none⟩) hg2).trans (HCS.out _ _ a1), (hb12.cell (p := ⟨w.heap.size, i * 3 + 2, none⟩) hg2).trans (HCS.out _ _ a2)⟩,
    fun i => (hb12.frozen (p := ⟨w.heap.size, i, none⟩) hg2).trans (HFZ.out i), fun i hi => by omega, fun i k _ hk => by omega, by omega, by omega, by omega⟩
  have hbw2 : Below w.heap.size w w2 := ((Below.refl _ _).grown HGR.out (Nat.le_refl _) (fun j e => by cases e)).trans (hb12.mono HGR.out.size)
  have HP0 := Lib.hid hP
  have HB0 := Lib.hid hbw2
  have hgs := HGR.out.size
  clear hw2 hb12 hz2 hP hbw2
  go_wp2
  go_loopw [21] (fun i wr => ∃ j T, j ≤ n ∧ i = .int .i64 j ∧ Hid (PartAt wr w1.heap.size w.heap.size n j T) ∧ Below w.heap.size w wr) (fun i _ => n - (intOf i).toNat)
  case atStart => exact ⟨0, _, by omega, rfl, HP0, HB0.out⟩
  case round =>
    obtain ⟨j, T, hj, rfl, HP, hB⟩ := hrel
    by_cases hlt : j < n
    · have hlt' : (j : Int) < n := by omega
      have d0 := HP.out.hd
      have hlb := HP.out.lb
      have hlg := HP.out.lg
      have hfz := HP.out.free
      obtain ⟨z0, z1, z2⟩ := HP.out.rest j (Nat.le_refl _) hlt
      clear hhd
      go_wp2
      go_region_with (first
        | (go_at_call 30; refine (tnew_any _).mono ?_; rintro e w3 ⟨rfl, ht3, hb3⟩; have HT3 := Lib.hid ht3; have HB3 := Lib.hid (Below.of_drew hb3); have k0 := ((HB3.out.cell (p := ⟨w.heap.size, j * 3, none⟩) hlg).trans z0); have k1 := ((HB3.out.cell (p := ⟨w.heap.size, j * 3 + 1, none⟩) hlg).trans z1); have k2 := ((HB3.out.cell (p := ⟨w.heap.size, j * 3 + 2, none⟩) hlg).trans z2); have kf := (fun i => (HB3.out.frozen (p := ⟨w.heap.size, i, none⟩) hlg).trans (hfz i)); have kd := ((HB3.out.cell (p := ⟨w1.heap.size, 0, none⟩) hlb).trans d0); clear ht3 hb3))
      all_goals go_wp2
      all_goals go_roundw
      all_goals first
        | exact ⟨j + 1, _, by omega, by go_num, Lib.hid (HP.out.step hlt HB3.out HT3.out (Nat.le_refl _)), (((hB.trans (HB3.out.mono hB.size)).setCell (Nat.le_refl _) _).setCell (Nat.le_refl _) _).setCell (Nat.le_refl _) _⟩
        | (simp [intOf]; omega)
    · obtain rfl : j = n := by omega
      have hd := HP.out.done h1 h3
      have HD := Lib.hid hd
      have HT := Lib.hid (fun i hi => (HP.out.tlb i hi).2.2)
      clear hd hhd
      go_wp2
      go_ret2
      first
        | exact ⟨_, _, T, rfl, HD.out, hgs, Nat.le_refl _, fun i hi => Nat.le_of_lt (HT.out i hi), hB⟩
        | exact ⟨_, T, HD.out, hgs, Nat.le_refl _, fun i hi => Nat.le_of_lt (HT.out i hi), hB⟩
        | exact ⟨_, rfl, _, T, HD.out, hgs, Nat.le_refl _, fun i hi => Nat.le_of_lt (HT.out i hi), hB⟩
        | exact ⟨_, ⟨_, ⟨T, HD.out, hgs, Nat.le_refl _, fun i hi => Nat.le_of_lt (HT.out i hi)⟩⟩, hB⟩
        | exact ⟨_, ⟨_, ⟨_, HD.out⟩, hgs, Nat.le_refl _, fun i hi => Nat.le_of_lt (HT.out i hi), hB⟩⟩
end Go.Proofs.Ytedapbliebiblaa
