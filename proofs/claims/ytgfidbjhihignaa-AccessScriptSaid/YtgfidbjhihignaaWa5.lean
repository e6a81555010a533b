/- package walk: Walk of what has no leaf. -/
import Derived.Test.YtgfidbjhihignaaWa4
namespace Go.Proofs.Ytgfidbjhihignaa
set_option linter.unusedVariables false
set_option linter.unusedSimpArgs false
open Go.ChangeShapes Go.WideShapes Go.ChangeAt Go.RowKit Go.Shelf

set_option maxHeartbeats 2000000 in
theorem walk_no (w : World) (b g n c : Nat) (m : Nat → Int) (r p cd : Int) (hM : MemAt w b g n c m) (h : walkC n m r p = cd) (hcd : cd ≠ 0) :
    Calls Try.prog 57 #[.pointer (some ⟨b, 0, none⟩), .int .i64 r, .int .i64 p] w fun e w' => e = .returned (.tuple #[entV false false false false 0, .int .i64 cd]) ∧ Below w.heap.size w w' := by
  obtain ⟨⟨a, c0⟩, hac⟩ : ∃ z, atF n m r p 3 = z := ⟨_, rfl⟩
  have hz : (cd == 0) = false := beq_eq_false_iff_ne.2 hcd
  unfold walkC at h
  rw [hac] at h
  simp only at h
  have HAC := Lib.hid hac
  have HM := Lib.hid hM
  split at h
  · rename_i h0
    obtain ⟨k, hk, ha⟩ := at_addr (show (atF n m r p 3).2 = 0 by rw [hac]; exact h0)
    rw [hac] at ha
    simp only at ha
    subst h0
    have hlw : leafW m a = (m k).toNat := by unfold leafW; rw [ha]; congr 2; omega
    rw [hlw] at h
    obtain ⟨x, hx⟩ : ∃ x, (m k).toNat = x := ⟨_, rfl⟩
    rw [hx] at h
    unfold leafC at h
    split at h
    · rename_i he
      split at h
      · exact absurd h.symm hcd
      · rename_i hl
        subst h
        have HE : Hid (∀ W, MemAt W b g n c m → Calls Try.prog 66 #[.pointer (some ⟨b, 0, none⟩), .int .u64 a] W fun e w' => e = .returned (.tuple #[entV true false (x.testBit 2) (x.testBit 3) ((x / 256 % 64 : Nat) : Int), .int .i64 0]) ∧ Below W.heap.size W w') := Lib.hid fun W hW => by
          have := entry_ok W b g n c m k a hW hk ha (by rw [hx]; exact he)
          rw [hx, Bool.eq_false_iff.2 hl] at this
          exact this
        obtain ⟨rr, hr⟩ : ∃ l, x.testBit 2 = l := ⟨_, rfl⟩
        obtain ⟨ww, hww⟩ : ∃ l, x.testBit 3 = l := ⟨_, rfl⟩
        obtain ⟨f, hff⟩ : ∃ f : Int, ((x / 256 % 64 : Nat) : Int) = f := ⟨_, rfl⟩
        rw [hr, hww, hff] at HE
        clear hr hww hff hx hl he hlw ha hac hM hk
        go_enter Try.func57, Try.ntmps57
        go_wp2_with (first
          | (go_at_call 65; refine (at_gen _ b g n c m r p 3 (HM.out.call (bal (Below.refl _ _) _))).mono ?_; rw [HAC.out]; rintro e w1 ⟨rfl, hb1⟩; obtain ⟨hc1, hf1⟩ := bcell hb1; have hz1 : w.heap.size < w1.heap.size := (by have := hb1.size; simp at this; omega))
          | (go_at_call 66; refine (HE.out _ (HM.out.call (bgo (bal (Below.refl _ _) _) hb1))).mono ?_; rintro e w2 ⟨rfl, hb2⟩; obtain ⟨hc2, hf2⟩ := bcell hb2; have hz2 : w.heap.size < w2.heap.size := (by have := hb2.size; omega)))
        have r0 : w2.cell? ⟨w.heap.size, 0, none⟩ = some (.bool false) := (hc2 _ _ hz1).trans ((hc1 _ _ (by simp)).trans (by rw [cellE]; rfl))
        have r1 : w2.cell? ⟨w.heap.size, 1, none⟩ = some (.bool false) := (hc2 _ _ hz1).trans ((hc1 _ _ (by simp)).trans (by rw [cellE]; rfl))
        have r2 : w2.cell? ⟨w.heap.size, 2, none⟩ = some (.bool false) := (hc2 _ _ hz1).trans ((hc1 _ _ (by simp)).trans (by rw [cellE]; rfl))
        have r3 : w2.cell? ⟨w.heap.size, 3, none⟩ = some (.bool false) := (hc2 _ _ hz1).trans ((hc1 _ _ (by simp)).trans (by rw [cellE]; rfl))
        have r4 : w2.cell? ⟨w.heap.size, 4, none⟩ = some (.int .i64 0) := (hc2 _ _ hz1).trans ((hc1 _ _ (by simp)).trans (by rw [cellE]; rfl))
        exact bodyPost_ret (v := .tuple #[entV false false false false 0, .int .i64 5]) (by simp [results, Try.results57, go_sem, r0, r1, r2, r3, r4, hz2, Nat.ne_of_lt hz2]) rfl ⟨rfl, by repeat (first | with_reducible exact Below.refl _ _ | with_reducible refine below_drewN ?_ _ | with_reducible refine Below.setCell ?_ (by first | with_reducible exact Nat.le_refl _ | (simp; done) | (simp; omega)) _ | with_reducible refine bal ?_ _ | with_reducible refine bgo ?_ (by assumption))⟩
    · rename_i he
      have HE : Hid (∀ W, MemAt W b g n c m → Calls Try.prog 66 #[.pointer (some ⟨b, 0, none⟩), .int .u64 a] W fun e w' => e = .returned (.tuple #[entV false false false false 0, .int .i64 cd]) ∧ Below W.heap.size W w') := Lib.hid fun W hW => entry_no W b g n c m k a hW hk ha cd (by rw [hx]; exact h) hcd
      clear h he hlw ha hac hM hk hx
      go_enter Try.func57, Try.ntmps57
      go_wp2_with (first
        | (go_at_call 65; refine (at_gen _ b g n c m r p 3 (HM.out.call (bal (Below.refl _ _) _))).mono ?_; rw [HAC.out]; rintro e w1 ⟨rfl, hb1⟩; obtain ⟨hc1, hf1⟩ := bcell hb1; have hz1 : w.heap.size < w1.heap.size := (by have := hb1.size; simp at this; omega))
        | (go_at_call 66; refine (HE.out _ (HM.out.call (bgo (bal (Below.refl _ _) _) hb1))).mono ?_; rintro e w2 ⟨rfl, hb2⟩; obtain ⟨hc2, hf2⟩ := bcell hb2; have hz2 : w.heap.size < w2.heap.size := (by have := hb2.size; omega)))
      have r0 : w2.cell? ⟨w.heap.size, 0, none⟩ = some (.bool false) := (hc2 _ _ hz1).trans ((hc1 _ _ (by simp)).trans (by rw [cellE]; rfl))
      have r1 : w2.cell? ⟨w.heap.size, 1, none⟩ = some (.bool false) := (hc2 _ _ hz1).trans ((hc1 _ _ (by simp)).trans (by rw [cellE]; rfl))
      have r2 : w2.cell? ⟨w.heap.size, 2, none⟩ = some (.bool false) := (hc2 _ _ hz1).trans ((hc1 _ _ (by simp)).trans (by rw [cellE]; rfl))
      have r3 : w2.cell? ⟨w.heap.size, 3, none⟩ = some (.bool false) := (hc2 _ _ hz1).trans ((hc1 _ _ (by simp)).trans (by rw [cellE]; rfl))
      have r4 : w2.cell? ⟨w.heap.size, 4, none⟩ = some (.int .i64 0) := (hc2 _ _ hz1).trans ((hc1 _ _ (by simp)).trans (by rw [cellE]; rfl))
      exact bodyPost_ret (v := .tuple #[entV false false false false 0, .int .i64 cd]) (by simp [results, Try.results57, go_sem, r0, r1, r2, r3, r4, hz2, Nat.ne_of_lt hz2]) rfl ⟨rfl, by repeat (first | with_reducible exact Below.refl _ _ | with_reducible refine below_drewN ?_ _ | with_reducible refine Below.setCell ?_ (by first | with_reducible exact Nat.le_refl _ | (simp; done) | (simp; omega)) _ | with_reducible refine bal ?_ _ | with_reducible refine bgo ?_ (by assumption))⟩
  · rename_i h0
    (try simp only at h)
    subst h
    clear h0 hac hM
    go_enter Try.func57, Try.ntmps57
    go_wp2_with (first
      | (go_at_call 65; refine (at_gen _ b g n c m r p 3 (HM.out.call (bal (Below.refl _ _) _))).mono ?_; rw [HAC.out]; rintro e w1 ⟨rfl, hb1⟩; obtain ⟨hc1, hf1⟩ := bcell hb1; have hz1 : w.heap.size < w1.heap.size := (by have := hb1.size; simp at this; omega)))
    have r0 : w1.cell? ⟨w.heap.size, 0, none⟩ = some (.bool false) := (hc1 _ _ (by simp)).trans (by rw [cellE]; rfl)
    have r1 : w1.cell? ⟨w.heap.size, 1, none⟩ = some (.bool false) := (hc1 _ _ (by simp)).trans (by rw [cellE]; rfl)
    have r2 : w1.cell? ⟨w.heap.size, 2, none⟩ = some (.bool false) := (hc1 _ _ (by simp)).trans (by rw [cellE]; rfl)
    have r3 : w1.cell? ⟨w.heap.size, 3, none⟩ = some (.bool false) := (hc1 _ _ (by simp)).trans (by rw [cellE]; rfl)
    have r4 : w1.cell? ⟨w.heap.size, 4, none⟩ = some (.int .i64 0) := (hc1 _ _ (by simp)).trans (by rw [cellE]; rfl)
    exact bodyPost_ret (v := .tuple #[entV false false false false 0, .int .i64 c0]) (by simp [results, Try.results57, go_sem, r0, r1, r2, r3, r4, hz1, Nat.ne_of_lt hz1]) rfl ⟨rfl, by repeat (first | with_reducible exact Below.refl _ _ | with_reducible refine below_drewN ?_ _ | with_reducible refine Below.setCell ?_ (by first | with_reducible exact Nat.le_refl _ | (simp; done) | (simp; omega)) _ | with_reducible refine bal ?_ _ | with_reducible refine bgo ?_ (by assumption))⟩
end Go.Proofs.Ytgfidbjhihignaa
