/- package walk: At of anything; Walk. -/
import Derived.Test.YtgfidbjhihignaaWa3
namespace Go.Proofs.Ytgfidbjhihignaa
set_option linter.unusedVariables false
set_option linter.unusedSimpArgs false
open Go.ChangeShapes Go.WideShapes Go.ChangeAt Go.RowKit Go.Shelf

theorem at_nil (w : World) (r p l : Int) : Calls Try.prog 65 #[.pointer none, .int .i64 r, .int .i64 p, .int .i64 l] w fun e w' => e = .returned (.tuple #[.int .u64 0, .int .i64 1]) ∧ Below w.heap.size w w' := by
  go_enter Try.func65, Try.ntmps65
  go_wp2
  go_step3
  go_wp2
  (try rw [Exit.noGoto_ret])
  refine bodyPost_ret (v := .tuple #[.int .u64 0, .int .i64 1]) (by simp [results, Try.results65, go_sem]) rfl ⟨rfl, bal (bal (Below.refl _ _) _) _⟩
set_option maxHeartbeats 1000000 in
theorem at_root (w : World) (b g n c : Nat) (m : Nat → Int) (r p l : Int) (hM : MemAt w b g n c m) (hr : r < 0 ∨ (n : Int) ≤ r) :
    Calls Try.prog 65 #[.pointer (some ⟨b, 0, none⟩), .int .i64 r, .int .i64 p, .int .i64 l] w fun e w' => e = .returned (.tuple #[.int .u64 0, .int .i64 3]) ∧ Below w.heap.size w w' := by
  have HM := Lib.hid hM
  clear hM
  by_cases h0 : r < 0
  · clear hr
    go_enter Try.func65, Try.ntmps65
    go_wp2
    go_step3
    go_wp2_with (first
      | (go_at_call 32; refine (frames_any _ b g n c m (HM.out.call (bal (bal (Below.refl _ _) _) _))).mono ?_; rintro e w1 ⟨rfl, rfl⟩))
    (try rw [Exit.noGoto_ret])
    refine bodyPost_ret (v := .tuple #[.int .u64 0, .int .i64 3]) (by simp [results, Try.results65, go_sem]) rfl ⟨rfl, bal (bal (Below.refl _ _) _) _⟩
  · have h1 : (n : Int) ≤ r := by omega
    clear hr
    go_enter Try.func65, Try.ntmps65
    go_wp2
    go_step3
    go_wp2_with (first
      | (go_at_call 32; refine (frames_any _ b g n c m (HM.out.call (bal (bal (Below.refl _ _) _) _))).mono ?_; rintro e w1 ⟨rfl, rfl⟩))
    (try rw [Exit.noGoto_ret])
    refine bodyPost_ret (v := .tuple #[.int .u64 0, .int .i64 3]) (by simp [results, Try.results65, go_sem]) rfl ⟨rfl, bal (bal (Below.refl _ _) _) _⟩
set_option maxHeartbeats 1000000 in
theorem at_idx (w : World) (b g n c : Nat) (m : Nat → Int) (r p l : Int) (hM : MemAt w b g n c m) (h0 : 0 ≤ r) (h1 : r < n) (hp : p < 0 ∨ 512 ≤ p ∨ l < 1 ∨ 3 < l) :
    Calls Try.prog 65 #[.pointer (some ⟨b, 0, none⟩), .int .i64 r, .int .i64 p, .int .i64 l] w fun e w' => e = .returned (.tuple #[.int .u64 0, .int .i64 3]) ∧ Below w.heap.size w w' := by
  have HM := Lib.hid hM
  have HP := Lib.hid hp
  clear hM hp
  go_enter Try.func65, Try.ntmps65
  go_wp2
  go_step3
  go_wp2_with (first
    | (go_at_call 32; refine (frames_any _ b g n c m (HM.out.call (bal (bal (Below.refl _ _) _) _))).mono ?_; rintro e w1 ⟨rfl, rfl⟩)
    | (go_at_call 47; refine (index_no p l _ HP.out).mono ?_; rintro e w2 ⟨rfl, q, rfl⟩))
  (try rw [Exit.noGoto_ret])
  refine bodyPost_ret (v := .tuple #[.int .u64 0, .int .i64 3]) (by simp [results, Try.results65, go_sem]) rfl ⟨rfl, below_drewN (bal (bal (Below.refl _ _) _) _) _⟩
/-- What At tells. -/
def atF (n : Nat) (m : Nat → Int) (r p l : Int) : Int × Int := if 0 ≤ r ∧ r < n ∧ 0 ≤ p ∧ p < 512 ∧ 1 ≤ l ∧ l ≤ 3 then descF n m p (l.toNat - 1) 1 r.toNat else (0, 3)
theorem at_gen (w : World) (b g n c : Nat) (m : Nat → Int) (r p l : Int) (hM : MemAt w b g n c m) :
    Calls Try.prog 65 #[.pointer (some ⟨b, 0, none⟩), .int .i64 r, .int .i64 p, .int .i64 l] w fun e w' => e = .returned (.tuple #[.int .u64 (atF n m r p l).1, .int .i64 (atF n m r p l).2]) ∧ Below w.heap.size w w' := by
  by_cases h : 0 ≤ r ∧ r < n ∧ 0 ≤ p ∧ p < 512 ∧ 1 ≤ l ∧ l ≤ 3
  · unfold atF
    rw [if_pos h]
    obtain ⟨R, rfl⟩ := Int.eq_ofNat_of_zero_le h.1
    obtain ⟨L, rfl⟩ := Int.eq_ofNat_of_zero_le (show 0 ≤ l by omega)
    simp only [Int.toNat_natCast]
    exact callsIn_wide.1 (at_in w b g n c m R L p hM (by omega) h.2.2.1 h.2.2.2.1 (by omega) (by omega))
  · have e : atF n m r p l = (0, 3) := by unfold atF; rw [if_neg h]
    rw [e]
    by_cases h0 : r < 0 ∨ (n : Int) ≤ r
    · exact at_root w b g n c m r p l hM h0
    · exact at_idx w b g n c m r p l hM (by omega) (by omega) (by omega)
theorem desc_addr {n : Nat} {m : Nat → Int} {p : Int} (p0 : 0 ≤ p) (p1 : p < 512) : ∀ (left l t : Nat), t < n → (descF n m p left l t).2 = 0 → ∃ k : Nat, k < 8 * n ∧ (descF n m p left l t).1 = 8 * (k : Int) := by
  intro left
  induction left with
  | zero =>
    intro l t ht _
    obtain ⟨i0, i1⟩ := indexN_bd p l p0 p1
    refine ⟨8 * t + (indexN p l).toNat, by omega, ?_⟩
    show 64 * (t : Int) + 8 * indexN p l = _
    omega
  | succ left ih =>
    intro l t ht h
    unfold descF at h ⊢
    split at h
    · rename_i hc
      rw [if_pos hc]
      exact ih _ _ (next_lt hc) h
    · rename_i hc
      exact absurd h hc
theorem desc_in {n : Nat} {m : Nat → Int} {p : Int} : ∀ (left l t : Nat), (descF n m p left l t).2 = 0 ∨ ((descF n m p left l t).1 = 0 ∧ ((descF n m p left l t).2 = 5 ∨ (descF n m p left l t).2 = 6)) := by
  intro left
  induction left with
  | zero => intro l t; exact .inl rfl
  | succ left ih =>
    intro l t
    unfold descF
    split
    · exact ih _ _
    · rename_i hc
      refine .inr ⟨rfl, ?_⟩
      have := entC_in n (m (8 * t + (indexN p l).toNat)).toNat
      unfold nextC at hc ⊢
      split
      · rename_i h0
        rw [if_pos h0] at hc
        split at hc
        · rename_i h1; rw [if_pos h1]; exact .inl rfl
        · exact absurd rfl hc
      · rename_i h0
        simp only
        omega
theorem at_addr {n : Nat} {m : Nat → Int} {r p l : Int} (h : (atF n m r p l).2 = 0) : ∃ k : Nat, k < 8 * n ∧ (atF n m r p l).1 = 8 * (k : Int) := by
  unfold atF at h ⊢
  split at h
  · rename_i hc
    rw [if_pos hc]
    exact desc_addr hc.2.2.1 hc.2.2.2.1 _ _ _ (by omega) h
  · cases h
/-- What Walk tells. -/
def leafW (m : Nat → Int) (a : Int) : Nat := (m (a / 8).toNat).toNat
def walkC (n : Nat) (m : Nat → Int) (r p : Int) : Int := if (atF n m r p 3).2 = 0 then leafC n (leafW m (atF n m r p 3).1) else (atF n m r p 3).2
def entW (x : Nat) : Value := entV true (x.testBit 1) (x.testBit 2) (x.testBit 3) ((x / 256 % 64 : Nat) : Int)
set_option maxHeartbeats 2000000 in
theorem walk_ok (w : World) (b g n c : Nat) (m : Nat → Int) (r p : Int) (hM : MemAt w b g n c m) (h : walkC n m r p = 0) :
    Calls Try.prog 57 #[.pointer (some ⟨b, 0, none⟩), .int .i64 r, .int .i64 p] w fun e w' => e = .returned (.tuple #[entW (leafW m (atF n m r p 3).1), .int .i64 0]) ∧ Below w.heap.size w w' := by
  unfold walkC at h
  split at h
  · rename_i h0
    obtain ⟨k, hk, ha⟩ := at_addr h0
    unfold leafC at h
    split at h
    · rename_i he
      split at h
      · rename_i hl
        obtain ⟨⟨a, c0⟩, hac⟩ : ∃ z, atF n m r p 3 = z := ⟨_, rfl⟩
        rw [hac] at h0 ha he hl ⊢
        simp only at h0 ha he hl ⊢
        subst h0
        have hlw : leafW m a = (m k).toNat := by unfold leafW; rw [ha]; congr 2; omega
        rw [hlw] at he hl ⊢
        obtain ⟨x, hx⟩ : ∃ x, (m k).toNat = x := ⟨_, rfl⟩
        have HE : Hid (∀ W, MemAt W b g n c m → Calls Try.prog 66 #[.pointer (some ⟨b, 0, none⟩), .int .u64 a] W fun e w' => e = .returned (.tuple #[entV true true (x.testBit 2) (x.testBit 3) ((x / 256 % 64 : Nat) : Int), .int .i64 0]) ∧ Below W.heap.size W w') := Lib.hid fun W hW => by
          have := entry_ok W b g n c m k a hW hk ha he
          rw [hx] at this hl
          rw [hl] at this
          exact this
        unfold entW
        rw [hx] at hl ⊢
        rw [hl]
        obtain ⟨rr, hr⟩ : ∃ l, x.testBit 2 = l := ⟨_, rfl⟩
        obtain ⟨ww, hww⟩ : ∃ l, x.testBit 3 = l := ⟨_, rfl⟩
        obtain ⟨f, hff⟩ : ∃ f : Int, ((x / 256 % 64 : Nat) : Int) = f := ⟨_, rfl⟩
        rw [hr, hww, hff] at HE ⊢
        have HAC := Lib.hid hac
        have HM := Lib.hid hM
        clear hr hww hff hx hl he hlw ha hac hM hk
        go_enter Try.func57, Try.ntmps57
        go_wp2_with (first
          | (go_at_call 65; refine (at_gen _ b g n c m r p 3 (HM.out.call (bal (Below.refl _ _) _))).mono ?_; rw [HAC.out]; rintro e w1 ⟨rfl, hb1⟩; obtain ⟨hc1, hf1⟩ := bcell hb1; have hz1 : w.heap.size < w1.heap.size := (by have := hb1.size; simp at this; omega))
          | (go_at_call 66; refine (HE.out _ (HM.out.call (bgo (bal (Below.refl _ _) _) hb1))).mono ?_; rintro e w2 ⟨rfl, hb2⟩; obtain ⟨hc2, hf2⟩ := bcell hb2; have hz2 : w.heap.size < w2.heap.size := (by have := hb2.size; omega)))
        have r0 : w2.cell? ⟨w.heap.size, 0, none⟩ = some (.bool false) := (hc2 _ _ hz1).trans ((hc1 _ _ (by simp)).trans (by rw [cellE]; rfl))
        have r1 : w2.cell? ⟨w.heap.size, 1, none⟩ = some (.bool false) := (hc2 _ _ hz1).trans ((hc1 _ _ (by simp)).trans (by rw [cellE]; rfl))
        have r2 : w2.cell? ⟨w.heap.size, 2, none⟩ = some (.bool false) := (hc2 _ _ hz1).trans ((hc1 _ _ (by simp)).trans (by rw [cellE]; rfl))
        have r3 : w2.cell? ⟨w.heap.size, 3, none⟩ = some (.bool false) := (hc2 _ _ hz1).trans ((hc1 _ _ (by simp)).trans (by rw [cellE]; rfl))
        have r4 : w2.cell? ⟨w.heap.size, 4, none⟩ = some (.int .i64 0) := (hc2 _ _ hz1).trans ((hc1 _ _ (by simp)).trans (by rw [cellE]; rfl))
        exact bodyPost_ret (v := .tuple #[entV true true rr ww f, .int .i64 0]) (by simp [results, Try.results57, go_sem, r0, r1, r2, r3, r4, hz2, Nat.ne_of_lt hz2]) rfl ⟨rfl, by repeat (first | with_reducible exact Below.refl _ _ | with_reducible refine Below.drew ?_ | with_reducible refine below_drewN ?_ _ | with_reducible refine Below.setCell ?_ (by first | with_reducible exact Nat.le_refl _ | (simp; done) | (simp; omega)) _ | with_reducible refine bal ?_ _ | with_reducible refine bgo ?_ (by assumption))⟩
      · cases h
    · rename_i he
      exact absurd h he
  · rename_i h0
    exact absurd h h0
end Go.Proofs.Ytgfidbjhihignaa
