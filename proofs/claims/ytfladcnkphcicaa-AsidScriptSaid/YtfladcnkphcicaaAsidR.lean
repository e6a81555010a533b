/- package asid: Root. -/
import Derived.Test.YtfladcnkphcicaaAsidI
namespace Go.Proofs.Ytfladcnkphcicaa
set_option linter.unusedVariables false
set_option linter.unusedSimpArgs false
open Go.ChangeShapes Go.WideShapes Go.ChangeAt Go.RowKit Go.Shelf
attribute [local go_sem] Oper.semAt_some
set_option maxRecDepth 100000 in
set_option maxHeartbeats 1000000 in
theorem root_in (w : World) (b : Nat) (po : Nat → Int) (tk : Int) (N : Nums) (r : Int) (hA : AsidAt w b po tk N) :
    CallsIn Fence.wide 3 Try.prog 19 #[.pointer (some ⟨b, 0, none⟩), .int .i64 r] w fun e W' => e = .returned (.tuple #[.int .i64 (rootR N r).1, .int .i64 (rootR N r).2.1, .bool (rootR N r).2.2]) ∧ Below w.heap.size w W' := by
  have HA := Lib.hid hA
  have hb := hA.lt
  clear hA
  refine callsIn_of_wp_marks Try.func19 rfl trivial ?_ rfl
  simp only [Try.ntmps19, List.size_toArray, List.length_cons, List.length_nil, Nat.reduceAdd, Nat.reduceSub, Array.replicate_succ, Array.replicate_zero, List.push_toArray, List.append_toArray, List.nil_append, List.cons_append]
  gi_wp2_with (refine ⟨trivial, ?_⟩; gi_at_call 26; refine (assigned_in _ _ _).mono ?_; rintro e w' ⟨rfl, rfl⟩)
  obtain ⟨w1, hw1⟩ : ∃ x, x = ((((w.alloc (.cells #[.int .i64 r] 3)).alloc (.cells #[.int .i64 0] 3)).alloc (.cells #[.int .i64 0] 3)).alloc (.cells #[.bool false] 4)).alloc (.cells #[.pointer (some ⟨b, 0, none⟩)] 24) := ⟨_, rfl⟩
  rw [← hw1]
  have hsz : w1.heap.size = w.heap.size + 5 := by rw [hw1]; simp
  have hb1 : Below w.heap.size w w1 := hw1 ▸ bal (bal (bal (bal (bal (Below.refl _ _) _) _) _) _) _
  have hbx : w1.cell? ⟨w.heap.size + 4, 0, none⟩ = some (.pointer (some ⟨b, 0, none⟩)) := by rw [hw1]; go_simp
  have inv : OfAt w b po tk N (fun y : Fin 32 => (N y.1).2.1 == r) r [] w1 := by
    refine ⟨HA.out.call hb1, ?_, ⟨?_, ?_⟩, ⟨?_, ?_⟩, ⟨?_, ?_⟩, by omega, hb1, fun _ h => by cases h⟩
    all_goals (rw [hw1]; go_simp; try rfl)
  clear hw1
  have hA1 := HA.out.call hb1
  refine wpIn_rangeFunc_ownF (α := Fin 32) rfl (by decide) (gf := 28) (lb := #[.pointer (some ⟨w.heap.size + 1 + 1 + 1 + 1, 0, none⟩)]) rfl trivial (enters_of Try.func28 (by kernel_rfl) rfl)
    (encs := encA b) (Kp := KpA b (w.heap.size + 4)) (S := fun xs => xs = asgTo N 32) (Sp := fun pre => ∃ k, ∃ h : k < 32, (N k).1 ≠ 0 ∧ pre = asgTo N k ++ [⟨k, h⟩]) (N := 32) (w0 := w1) (assigned1_seq 1 b (w.heap.size + 4) po tk N w1 hA1 hbx (by omega))
    (fun h k => h.trans k) ?hKb (Below.refl _ _) (fun _ => rfl) (OfAt w b po tk N (fun y : Fin 32 => (N y.1).2.1 == r) r) (OfIx w (fun y : Fin 32 => (N y.1).2.1 == r) (fun y : Fin 32 => ((N y.1).1, (y.1 : Int)))) (hsz ▸ OfAt.from hb) (fun c => hsz ▸ OfIx.from c) inv
    (fun x => { tmps := #[.pointer (some ⟨b, 0, none⟩), .int .i64 r, undef, .pointer (some ⟨w.heap.size, 0, none⟩), .pointer (some ⟨w.heap.size + 1, 0, none⟩), .pointer (some ⟨w.heap.size + 1 + 1, 0, none⟩), .pointer (some ⟨w.heap.size + 1 + 1 + 1, 0, none⟩), .int .i64 x.1, .pointer (some ⟨b, 9 + x.1 * 3, none⟩), .pointer (some ⟨b, 0, none⟩), .func (.func 28) #[] #[.pointer (some ⟨w.heap.size + 1 + 1 + 1 + 1, 0, none⟩)], .int .i64 x.1, .pointer (some ⟨b, 9 + x.1 * 3, none⟩), undef, undef, undef, undef, undef, undef, undef, undef, undef, undef, undef], defers := [] }) ?hassign ?hbody ?hdone ?hstop
  case hKb =>
    intro W l o o' hl ho _ _
    exact ⟨heap_putObj_ne (by omega), heap_putObj_ne (by omega), by simp⟩
  case hassign =>
    intro l x W K hK
    gi_wp2
    exact hK
  case hbody =>
    rintro l pre x W hI hlen
    obtain ⟨c0, c1, c2⟩ := hI.asid.num x.1 x.2
    have ca := hI.arg
    obtain ⟨d0, f0⟩ := hI.r0
    obtain ⟨d1, f1⟩ := hI.r1
    obtain ⟨d2, f2⟩ := hI.r2
    have HI := Lib.hid hI
    have hx32 : (x.1 : Int) < 32 := by have := x.2; omega
    clear hI
    cases hq : (fun y : Fin 32 => (N y.1).2.1 == r) x
    · have hq' := hq
      dsimp only at hq'
      have HQ := Lib.hid hq
      clear hq
      gi_wp2
      gi_region
      all_goals
        gi_wp2
        exact ⟨KeepsOthers.of_drew W, ⟨rfl, rfl, Nat.le_refl _⟩, HI.out.step HQ.out⟩
    · have hq' := hq
      dsimp only at hq'
      have HQ := Lib.hid hq
      clear hq
      gi_wp2
      gi_region
      all_goals
        gi_wp2
        all_goals
          refine ⟨(by repeat (first | with_reducible exact KeepsOthers.refl _ | with_reducible refine KeepsOthers.step_drew ?_ | with_reducible refine KeepsOthers.step_set ?_ _ _)), rfl, ⟨pre, x, rfl, HI.out.no, HQ.out, ?_, ?_, ?_⟩, ?_, ?_⟩
          · go_simp
          · go_simp
          · go_simp
          · have := HI.out.lt; simp; omega
          · (repeat (first | with_reducible exact HI.out.below | with_reducible refine Below.drew ?_ | with_reducible refine Below.setCell ?_ (by simp; try omega) _))
  case hdone =>
    rintro D xs W hD rfl hI hK
    have hno : ∀ j, j < 32 → rootP N r j = false := fun j hj => by
      unfold rootP
      by_cases hz : (N j).1 = 0
      · simp [hz]
      · have := hI.no ⟨j, hj⟩ ((asg_mem (Nat.le_refl _)).2 ⟨hj, hz⟩)
        simp only at this
        simp [this]
    have hr := root_no hno
    have HRR := Lib.hid hr
    have BI := hI.below
    obtain ⟨d0, f0⟩ := hI.r0
    obtain ⟨d1, f1⟩ := hI.r1
    obtain ⟨d2, f2⟩ := hI.r2
    clear hno hr hI
    gi_wp2
    rw [HRR.out]
    have q0 : (((W.setCell ⟨w.heap.size + 1, 0, none⟩ (.int .i64 0)).setCell ⟨w.heap.size + 1 + 1, 0, none⟩ (.int .i64 0)).setCell ⟨w.heap.size + 1 + 1 + 1, 0, none⟩ (.bool false)).cell? ⟨w.heap.size + 1, 0, none⟩ = some (.int .i64 0) := by go_simp
    have q1 : (((W.setCell ⟨w.heap.size + 1, 0, none⟩ (.int .i64 0)).setCell ⟨w.heap.size + 1 + 1, 0, none⟩ (.int .i64 0)).setCell ⟨w.heap.size + 1 + 1 + 1, 0, none⟩ (.bool false)).cell? ⟨w.heap.size + 1 + 1, 0, none⟩ = some (.int .i64 0) := by go_simp
    have q2 : (((W.setCell ⟨w.heap.size + 1, 0, none⟩ (.int .i64 0)).setCell ⟨w.heap.size + 1 + 1, 0, none⟩ (.int .i64 0)).setCell ⟨w.heap.size + 1 + 1 + 1, 0, none⟩ (.bool false)).cell? ⟨w.heap.size + 1 + 1 + 1, 0, none⟩ = some (.bool false) := by go_simp
    have hKU : (((W.setCell ⟨w.heap.size + 1, 0, none⟩ (.int .i64 0)).setCell ⟨w.heap.size + 1 + 1, 0, none⟩ (.int .i64 0)).setCell ⟨w.heap.size + 1 + 1 + 1, 0, none⟩ (.bool false)).heap[D]? = some (.deferred (some [])) := by
      rw [Go.heap_setCell_other _ _ _ _ (by simp; omega), Go.heap_setCell_other _ _ _ _ (by simp; omega), Go.heap_setCell_other _ _ _ _ (by simp; omega)]
      exact hK
    have BU : Below w.heap.size w (((W.setCell ⟨w.heap.size + 1, 0, none⟩ (.int .i64 0)).setCell ⟨w.heap.size + 1 + 1, 0, none⟩ (.int .i64 0)).setCell ⟨w.heap.size + 1 + 1 + 1, 0, none⟩ (.bool false)) := by
      (repeat (first | with_reducible exact BI | with_reducible refine Below.setCell ?_ (by simp; try omega) _))
    obtain ⟨U, hU⟩ : ∃ U, U = (((W.setCell ⟨w.heap.size + 1, 0, none⟩ (.int .i64 0)).setCell ⟨w.heap.size + 1 + 1, 0, none⟩ (.int .i64 0)).setCell ⟨w.heap.size + 1 + 1 + 1, 0, none⟩ (.bool false)) := ⟨_, rfl⟩
    rw [← hU] at q0 q1 q2 hKU BU ⊢
    clear hU d0 d1 d2 f0 f1 f2
    refine ⟨by simp, .inl ⟨_, _, rfl, run_takeDeferred hKU, ?_⟩⟩
    have g0 : (U.putObj D (.deferred none)).cell? ⟨w.heap.size + 1, 0, none⟩ = some (.int .i64 0) := (cell_of_block (heap_putObj_ne (by omega))).trans q0
    have g1 : (U.putObj D (.deferred none)).cell? ⟨w.heap.size + 1 + 1, 0, none⟩ = some (.int .i64 0) := (cell_of_block (heap_putObj_ne (by omega))).trans q1
    have g2 : (U.putObj D (.deferred none)).cell? ⟨w.heap.size + 1 + 1 + 1, 0, none⟩ = some (.bool false) := (cell_of_block (heap_putObj_ne (by omega))).trans q2
    exact ⟨.tuple #[.int .i64 0, .int .i64 0, .bool false], by simp [results, Try.results19, go_sem, g0, g1, g2], rfl, BU.trans (belowK_b (w := w) (Nat.le_refl _) U D _ _ (by omega) hKU rfl rfl)⟩
  case hstop =>
    rintro D c pre W hD ⟨k, hk, hz, hpre⟩ ⟨rfl, ⟨p, x, h1, h2, h3, h4, h5, h6⟩, h7, h8⟩ hK
    obtain ⟨rfl, hx⟩ := List.append_inj' (h1.symm.trans hpre) rfl
    obtain rfl : x = ⟨k, hk⟩ := by simpa using hx
    have hno : ∀ j, j < k → rootP N r j = false := fun j hj => by
      unfold rootP
      by_cases hz : (N j).1 = 0
      · simp [hz]
      · have := h2 ⟨j, by omega⟩ ((asg_mem (by omega)).2 ⟨hj, hz⟩)
        simp only at this
        simp [this]
    have hr := root_yes hk (by unfold rootP; simp only at h3; simp [h3, hz]) hno
    have HRR := Lib.hid hr
    simp only at h4 h5
    clear hr
    gi_wp2
    rw [HRR.out]
    refine ⟨by simp, .inl ⟨_, _, rfl, run_takeDeferred hK, ?_⟩⟩
    have g0 : (W.putObj D (.deferred none)).cell? ⟨w.heap.size + 1, 0, none⟩ = some (.int .i64 (N k).1) := (cell_of_block (heap_putObj_ne (by omega))).trans h4
    have g1 : (W.putObj D (.deferred none)).cell? ⟨w.heap.size + 1 + 1, 0, none⟩ = some (.int .i64 k) := (cell_of_block (heap_putObj_ne (by omega))).trans h5
    have g2 : (W.putObj D (.deferred none)).cell? ⟨w.heap.size + 1 + 1 + 1, 0, none⟩ = some (.bool true) := (cell_of_block (heap_putObj_ne (by omega))).trans h6
    exact ⟨.tuple #[.int .i64 (N k).1, .int .i64 k, .bool true], by simp [results, Try.results19, go_sem, g0, g1, g2], rfl, h8.trans (belowK_b (w := w) (Nat.le_refl _) W D _ _ (by omega) hK rfl rfl)⟩
theorem of_any (w : World) (b : Nat) (po : Nat → Int) (tk : Int) (N : Nums) (r : Int) (hA : AsidAt w b po tk N) :
    Calls Try.prog 17 #[.pointer (some ⟨b, 0, none⟩), .int .i64 r] w fun e W' => e = .returned (.tuple #[.int .i64 (ofR N r).1, .int .i64 (ofR N r).2.1, .bool (ofR N r).2.2]) ∧ Below w.heap.size w W' := callsIn_wide.1 (of_in w b po tk N r hA)
theorem root_any (w : World) (b : Nat) (po : Nat → Int) (tk : Int) (N : Nums) (r : Int) (hA : AsidAt w b po tk N) :
    Calls Try.prog 19 #[.pointer (some ⟨b, 0, none⟩), .int .i64 r] w fun e W' => e = .returned (.tuple #[.int .i64 (rootR N r).1, .int .i64 (rootR N r).2.1, .bool (rootR N r).2.2]) ∧ Below w.heap.size w W' := callsIn_wide.1 (root_in w b po tk N r hA)
end Go.Proofs.Ytfladcnkphcicaa
