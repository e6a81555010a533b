/- pte.Decode, for every word. -/
import Derived.Test.YtgfidbjhihignaaPwDecL
import Derived.LoopTactic
import Derived.Outline
import Derived.Deep.QuietTactic
import Derived.BigQuiet
import Derived.Lib.Hide
import Derived.Laws.BitsAllLaws
import Derived.WalkSmall
namespace Go.Proofs.Ytgfidbjhihignaa
set_option linter.unusedVariables false
set_option linter.unusedSimpArgs false
open Go.ChangeShapes Go.WideShapes Go.ChangeAt Go.RowKit
attribute [local go_sem] setCell_drewN alloc_drewN
/-- What Decode comes to. -/
def DecPost (w : Nat) (W : World) (e : Ending) (W' : World) : Prop :=
  ((e = .returned (.tuple #[entV (w.testBit 0) (w.testBit 1) (w.testBit 2) (w.testBit 3) ((w / 256 % 64 : Nat) : Int), .int .i64 0]) ∧ Allowed w 64 ∧ mayE (w.testBit 0) (w.testBit 1) (w.testBit 2) (w.testBit 3) ((w / 256 % 64 : Nat) : Int) = true) ∨
   (e = .returned (.tuple #[entV false false false false 0, .int .i64 5]) ∧ ¬ (Allowed w 64 ∧ mayE (w.testBit 0) (w.testBit 1) (w.testBit 2) (w.testBit 3) ((w / 256 % 64 : Nat) : Int) = true))) ∧ Below W.heap.size W W'
theorem below_call {B : Nat} {W wr w1 : World} (h : Below B W wr) (h1 : Below wr.heap.size wr w1) (hw : B ≤ wr.heap.size) : Below B W w1 := h.trans (h1.mono hw)
set_option maxHeartbeats 8000000 in
theorem dec_any (w : Nat) (W : World) (hw : w < 2 ^ 64) : Calls Try.prog 73 #[.int .u64 w] W (DecPost w W) := by
  go_enter Try.func73, Try.ntmps73
  go_wp2
  go_step3
  go_wp2
  go_step3
  go_wp2
  go_loopw [5, 7] (fun known i wr => ∃ k : Nat, k ≤ 64 ∧ i = .int .i64 k ∧ known = .bool true ∧ Allowed w k ∧ wr.heap[W.heap.size + 1]? = some (.cells (cellsAt w k) 137 (0, 0)) ∧
      wr.heap[W.heap.size]? = some (.cells #[.bool false, .bool false, .bool false, .bool false, .int .i64 0] 137 (0, 0)) ∧ Below W.heap.size W wr)
    (fun _ i _ => 64 - (intOf i).toNat)
  case atStart =>
    refine ⟨0, by omega, rfl, rfl, fun i hi => by omega, ?_, ?_, bal (bal (Below.refl _ _) _) _⟩
    · have := World.alloc_heap_new (W.alloc (.cells #[.bool false, .bool false, .bool false, .bool false, .int .i64 0] 137)) (.cells #[.bool false, .bool false, .bool false, .bool false, .int .i64 0] 137)
      rw [World.size_alloc] at this
      exact this
    · exact (Below.heap_alloc _ _ _ (by simp)).trans (World.alloc_heap_new W _)
  case round =>
    obtain ⟨k, hk, rfl, rfl, hA, hB, hR, hb⟩ := hrel
    obtain ⟨r0, -⟩ := cell_blk hR 0
    have r0 : wr.cell? ⟨W.heap.size, 0, none⟩ = some (.bool false) := r0
    have r1 : wr.cell? ⟨W.heap.size, 1, none⟩ = some (.bool false) := (cell_blk hR 1).1
    have r2 : wr.cell? ⟨W.heap.size, 2, none⟩ = some (.bool false) := (cell_blk hR 2).1
    have r3 : wr.cell? ⟨W.heap.size, 3, none⟩ = some (.bool false) := (cell_blk hR 3).1
    have r4 : wr.cell? ⟨W.heap.size, 4, none⟩ = some (.int .i64 0) := (cell_blk hR 4).1
    have f0 : wr.cell? ⟨W.heap.size + 1, 0, none⟩ = some (.bool (flagAt w k 0)) := (cell_blk hB 0).1
    have f1 : wr.cell? ⟨W.heap.size + 1, 1, none⟩ = some (.bool (flagAt w k 1)) := (cell_blk hB 1).1
    have f2 : wr.cell? ⟨W.heap.size + 1, 2, none⟩ = some (.bool (flagAt w k 2)) := (cell_blk hB 2).1
    have f3 : wr.cell? ⟨W.heap.size + 1, 3, none⟩ = some (.bool (flagAt w k 3)) := (cell_blk hB 3).1
    have f4 : wr.cell? ⟨W.heap.size + 1, 4, none⟩ = some (.int .i64 (frameAt w k)) := (cell_blk hB 4).1
    have g0 : wr.frozen? ⟨W.heap.size + 1, 0, none⟩ = false := (cell_blk hB 0).2
    have g1 : wr.frozen? ⟨W.heap.size + 1, 1, none⟩ = false := (cell_blk hB 1).2
    have g2 : wr.frozen? ⟨W.heap.size + 1, 2, none⟩ = false := (cell_blk hB 2).2
    have g3 : wr.frozen? ⟨W.heap.size + 1, 3, none⟩ = false := (cell_blk hB 3).2
    have g4 : wr.frozen? ⟨W.heap.size + 1, 4, none⟩ = false := (cell_blk hB 4).2
    have z0 : wr.frozen? ⟨W.heap.size, 0, none⟩ = false := (cell_blk hR 0).2
    have z1 : wr.frozen? ⟨W.heap.size, 1, none⟩ = false := (cell_blk hR 1).2
    have z2 : wr.frozen? ⟨W.heap.size, 2, none⟩ = false := (cell_blk hR 2).2
    have z3 : wr.frozen? ⟨W.heap.size, 3, none⟩ = false := (cell_blk hR 3).2
    have z4 : wr.frozen? ⟨W.heap.size, 4, none⟩ = false := (cell_blk hR 4).2
    have hwz : W.heap.size ≤ wr.heap.size := hb.size
    have hws : W.heap.size + 1 < wr.heap.size := (Array.getElem?_eq_some_iff.mp hB).1
    have hBH := Lib.hid hB; have hRH := Lib.hid hR; clear hB hR
    by_cases hlt : k < 64
    · have tb := bit_test w k hw
      cases ht : w.testBit k
      · rw [ht] at tb
        have HT := Lib.hid ht; clear ht
        go_wp2
        go_roundw
        case rel =>
          refine ⟨k + 1, by omega, by go_num, rfl, allowed_step hA (fun h => by rw [HT.out] at h; cases h), ?_, hRH.out, hb⟩
          rw [hBH.out]
          unfold cellsAt
          rw [flag_same 0 (.inr HT.out), flag_same 1 (.inr HT.out), flag_same 2 (.inr HT.out), flag_same 3 (.inr HT.out), frame_same (.inr (.inr HT.out))]
        case measure => simp [intOf]; omega
      · rw [ht] at tb
        have HT := Lib.hid ht; clear ht
        by_cases k0 : k = 0
        · subst k0
          rw [show ((2 : Int) ^ 0) = 1 by decide, Int.ediv_one] at tb
          go_wp2
          go_roundw
          case rel => exact ⟨1, by omega, by go_num, rfl, allowed_step hA (fun _ => by omega), (Go.heap_setCell_same _ _ _ _ _ _ hBH.out).trans (by rw [cells_0 HT.out]), (Go.heap_setCell_other _ _ _ _ (by simp)).trans hRH.out, hb.setCell (by simp) _⟩
          case measure => simp [intOf]
        · by_cases k1 : k = 1
          · subst k1
            rw [show ((2 : Int) ^ 1) = 2 by decide] at tb
            go_wp2
            go_roundw
            case rel => exact ⟨2, by omega, by go_num, rfl, allowed_step hA (fun _ => by omega), (Go.heap_setCell_same _ _ _ _ _ _ hBH.out).trans (by rw [cells_1 HT.out]), (Go.heap_setCell_other _ _ _ _ (by simp)).trans hRH.out, hb.setCell (by simp) _⟩
            case measure => simp [intOf]
          · by_cases k2 : k = 2
            · subst k2
              rw [show ((2 : Int) ^ 2) = 4 by decide] at tb
              go_wp2
              go_roundw
              case rel => exact ⟨3, by omega, by go_num, rfl, allowed_step hA (fun _ => by omega), (Go.heap_setCell_same _ _ _ _ _ _ hBH.out).trans (by rw [cells_2 HT.out]), (Go.heap_setCell_other _ _ _ _ (by simp)).trans hRH.out, hb.setCell (by simp) _⟩
              case measure => simp [intOf]
            · by_cases k3 : k = 3
              · subst k3
                rw [show ((2 : Int) ^ 3) = 8 by decide] at tb
                go_wp2
                go_roundw
                case rel => exact ⟨4, by omega, by go_num, rfl, allowed_step hA (fun _ => by omega), (Go.heap_setCell_same _ _ _ _ _ _ hBH.out).trans (by rw [cells_3 HT.out]), (Go.heap_setCell_other _ _ _ _ (by simp)).trans hRH.out, hb.setCell (by simp) _⟩
                case measure => simp [intOf]
              · by_cases k8 : 8 ≤ k ∧ k < 14
                · obtain ⟨k8, k14⟩ := k8
                  go_wp2
                  go_region
                  go_wp2
                  go_roundw
                  case rel => exact ⟨k + 1, by omega, by go_num, rfl, allowed_step hA (fun _ => by omega), (Go.heap_setCell_same _ _ _ _ _ _ hBH.out).trans (by rw [frame_or k8 k14 HT.out, cells_f k8 k14]), (Go.heap_setCell_other _ _ _ _ (by simp)).trans hRH.out, below_drewN (hb.setCell (by simp) _) 1⟩
                  case measure => simp [intOf]; omega
                · go_wp2
                  all_goals exact bodyPost_ret (v := .tuple #[entV false false false false 0, .int .i64 5]) (by simp [results, Try.results73, go_sem, r0, r1, r2, r3, r4]) rfl ⟨.inr ⟨rfl, fun h => absurd (h.1 k hlt HT.out) (by omega)⟩, (by repeat (first | exact Below.refl _ _ | assumption | refine below_drewN ?_ _ | refine Below.setCell ?_ (by first | exact Nat.le_refl _ | (simp; done) | (simp; omega)) _ | refine bal ?_ _ | refine bgo ?_ (by assumption)))⟩
    · obtain rfl : k = 64 := by omega
      obtain ⟨v0, hv0⟩ : ∃ v, flagAt w 64 0 = v := ⟨_, rfl⟩
      obtain ⟨v1, hv1⟩ : ∃ v, flagAt w 64 1 = v := ⟨_, rfl⟩
      obtain ⟨v2, hv2⟩ : ∃ v, flagAt w 64 2 = v := ⟨_, rfl⟩
      obtain ⟨v3, hv3⟩ : ∃ v, flagAt w 64 3 = v := ⟨_, rfl⟩
      obtain ⟨fr, hfr⟩ : ∃ v, frameAt w 64 = v := ⟨_, rfl⟩
      rw [hv0] at f0; rw [hv1] at f1; rw [hv2] at f2; rw [hv3] at f3; rw [hfr] at f4
      have HE := Lib.hid (show w.testBit 0 = v0 ∧ w.testBit 1 = v1 ∧ w.testBit 2 = v2 ∧ w.testBit 3 = v3 ∧ w / 256 % 64 = fr from
        ⟨(flag_end w 0 (by decide)).symm.trans hv0, (flag_end w 1 (by decide)).symm.trans hv1, (flag_end w 2 (by decide)).symm.trans hv2, (flag_end w 3 (by decide)).symm.trans hv3, (frame_end w).symm.trans hfr⟩)
      clear hv0 hv1 hv2 hv3 hfr hBH hRH
      cases hm : mayE v0 v1 v2 v3 fr
      · go_wp2_with (go_at_call 77; refine (may_any v0 v1 v2 v3 fr _).mono ?_; rintro e w1 ⟨rfl, hb1⟩; obtain ⟨hc1, hf1⟩ := bcell hb1; have hz1 : W.heap.size + 1 < w1.heap.size := (by have := hb1.size; omega); have hy1 : W.heap.size < wr.heap.size := (by omega))
        have q0 : w1.cell? ⟨W.heap.size, 0, none⟩ = some (.bool false) := (hc1 _ _ hy1).trans r0
        have q1 : w1.cell? ⟨W.heap.size, 1, none⟩ = some (.bool false) := (hc1 _ _ hy1).trans r1
        have q2 : w1.cell? ⟨W.heap.size, 2, none⟩ = some (.bool false) := (hc1 _ _ hy1).trans r2
        have q3 : w1.cell? ⟨W.heap.size, 3, none⟩ = some (.bool false) := (hc1 _ _ hy1).trans r3
        have q4 : w1.cell? ⟨W.heap.size, 4, none⟩ = some (.int .i64 0) := (hc1 _ _ hy1).trans r4
        rw [Exit.noGoto_ret]
        obtain ⟨h0, h1, h2, h3, h4⟩ := HE.out
        exact bodyPost_ret (v := .tuple #[entV false false false false 0, .int .i64 5]) (by simp [results, Try.results73, go_sem, q0, q1, q2, q3, q4]) rfl ⟨.inr ⟨rfl, fun h => by rw [h0, h1, h2, h3, h4, hm] at h; exact absurd h.2 (by decide)⟩, (by repeat (first | exact Below.refl _ _ | assumption | refine below_drewN ?_ _ | refine Below.setCell ?_ (by first | exact Nat.le_refl _ | (simp; done) | (simp; omega)) _ | refine bal ?_ _ | exact below_call hb (by assumption) (by assumption)))⟩
      · go_wp2_with (go_at_call 77; refine (may_any v0 v1 v2 v3 fr _).mono ?_; rintro e w1 ⟨rfl, hb1⟩; obtain ⟨hc1, hf1⟩ := bcell hb1; have hz1 : W.heap.size + 1 < w1.heap.size := (by have := hb1.size; omega); have hy1 : W.heap.size < wr.heap.size := (by omega))
        have q0 : w1.cell? ⟨W.heap.size, 0, none⟩ = some (.bool false) := (hc1 _ _ hy1).trans r0
        have q1 : w1.cell? ⟨W.heap.size, 1, none⟩ = some (.bool false) := (hc1 _ _ hy1).trans r1
        have q2 : w1.cell? ⟨W.heap.size, 2, none⟩ = some (.bool false) := (hc1 _ _ hy1).trans r2
        have q3 : w1.cell? ⟨W.heap.size, 3, none⟩ = some (.bool false) := (hc1 _ _ hy1).trans r3
        have q4 : w1.cell? ⟨W.heap.size, 4, none⟩ = some (.int .i64 0) := (hc1 _ _ hy1).trans r4
        rw [Exit.noGoto_ret]
        obtain ⟨h0, h1, h2, h3, h4⟩ := HE.out
        exact bodyPost_ret (v := .tuple #[entV v0 v1 v2 v3 (fr : Int), .int .i64 0]) (by simp [results, Try.results73, go_sem, q0, q1, q2, q3, q4]) rfl ⟨.inl ⟨by rw [h0, h1, h2, h3, h4], hA, by rw [h0, h1, h2, h3, h4, hm]⟩, (by repeat (first | exact Below.refl _ _ | assumption | refine below_drewN ?_ _ | refine Below.setCell ?_ (by first | exact Nat.le_refl _ | (simp; done) | (simp; omega)) _ | refine bal ?_ _ | exact below_call hb (by assumption) (by assumption)))⟩
end Go.Proofs.Ytgfidbjhihignaa
