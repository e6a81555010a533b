/- Chapter 6's own Evict and Drop. -/
import Derived.Test.YtimgiplcejcaaaaTlbZ
namespace Go.Proofs.Ytimgiplcejcaaaa
set_option linter.unusedVariables false
set_option linter.unusedSimpArgs false
open Go.ChangeShapes Go.WideShapes Go.ChangeAt Go.RowKit

theorem wipe_put (S : Nat → TransX × TransX × Int) {k j : Nat} (hj : j < 2) : wipeP S (k, j) = putW S (k, j) zT := by
  obtain rfl | rfl : j = 0 ∨ j = 1 := by omega
  · simp [wipeP, putW]
  · simp [wipeP, putW]
theorem ref_wipe {w : World} {b k j : Nat} {S : Nat → TransX × TransX × Int} (h : RefAt w b S) (hk : k < 4) (hj : j < 2) :
    RefAt (((((w.setCell ⟨b, k * 10 + j * 5, none⟩ (.int .i64 0)).setCell ⟨b, k * 10 + j * 5 + 1, none⟩ (.int .i64 0)).setCell ⟨b, k * 10 + j * 5 + 2, none⟩ (.int .i64 0)).setCell ⟨b, k * 10 + j * 5 + 3, none⟩ (.bool false)).setCell ⟨b, k * 10 + j * 5 + 4, none⟩ (.bool false)) b (wipeP S (k, j)) := by
  rw [wipe_put S hj]
  exact ref_put h hk hj zT
set_option maxHeartbeats 1000000 in
theorem refEvict_ok (w : World) (b k j : Nat) (S : Nat → TransX × TransX × Int) (hk : k < 4) (hj : j < 2) (h : RefAt w b S) (ok : OkT (wayP S (k, j))) :
    Calls Try.prog 17 #[.pointer (some ⟨b, 0, none⟩), .int .i64 k, .int .i64 j] w fun e w' => e = .returned (.bool (decide (wayP S (k, j) ≠ zT))) ∧ RefAt w' b (wipeP S (k, j)) ∧ TlbOnly b w w' := by
  have H := Lib.hid h
  obtain ⟨c0, c1, c2, c3, c4⟩ := h.way k j hk hj
  have hf := h.free
  have hk' : (k : Int) < 4 := by omega
  have hj' : (j : Int) < 2 := by omega
  clear h
  rcases ok with ok | ok
  · have hd : decide (wayP S (k, j) ≠ zT) = false := by simp [ok]
    rw [hd]
    rw [ok] at c0 c1 c2 c3 c4
    clear ok hd
    go_enter Try.func17, Try.ntmps17
    go_wp2
    go_ret
    exact ⟨rfl, ref_wipe H.out hk hj, only_put _ _ _ _ _ _ _ _⟩
  · have hd : decide (wayP S (k, j) ≠ zT) = true := by
      rw [decide_eq_true_eq]; intro e; rw [e] at ok; simp at ok
    rw [hd]
    obtain ⟨x, hx⟩ : ∃ x, wayP S (k, j) = x := ⟨_, rfl⟩
    rw [hx] at c0 c1 c2 c3 c4 ok
    have ok' : 0 < x.s := by omega
    clear hd hx
    go_enter Try.func17, Try.ntmps17
    go_wp2
    go_ret
    exact ⟨rfl, ref_wipe H.out hk hj, only_put _ _ _ _ _ _ _ _⟩
set_option maxHeartbeats 1000000 in
theorem refEvict_bad (w : World) (b : Nat) (i j : Int) (h : ¬ (0 ≤ i ∧ i < 4 ∧ 0 ≤ j ∧ j < 2)) :
    Calls Try.prog 17 #[.pointer (some ⟨b, 0, none⟩), .int .i64 i, .int .i64 j] w fun e w' => e = .returned (.bool false) ∧ w = w' := by
  have hd : (decide (i < 0) || decide (4 ≤ i) || decide (j < 0) || decide (2 ≤ j)) = true := by simp; omega
  go_enter Try.func17, Try.ntmps17
  go_wp2
  all_goals go_ret
  all_goals exact ⟨rfl, rfl⟩
theorem refEvict_any (w : World) (b : Nat) (S : Nat → TransX × TransX × Int) (i j : Int) (h : RefAt w b S) (hS : Oks S) :
    Calls Try.prog 17 #[.pointer (some ⟨b, 0, none⟩), .int .i64 i, .int .i64 j] w fun e w' => e = .returned (.bool (evictS S i j).2) ∧ RefAt w' b (evictS S i j).1 ∧ TlbOnly b w w' := by
  by_cases hm : 0 ≤ i ∧ i < 4 ∧ 0 ≤ j ∧ j < 2
  · have e : evictS S i j = (wipeP S (i.toNat, j.toNat), decide (wayP S (i.toNat, j.toNat) ≠ zT)) := by unfold evictS; rw [if_pos hm]
    have := refEvict_ok w b i.toNat j.toNat S (by omega) (by omega) h (hS.way _ _ (by omega) (by omega))
    rw [show ((i.toNat : Nat) : Int) = i by omega, show ((j.toNat : Nat) : Int) = j by omega] at this
    rw [e]
    exact this
  · have e : evictS S i j = (S, false) := by unfold evictS; rw [if_neg hm]
    rw [e]
    refine (refEvict_bad w b i j hm).mono ?_
    rintro e w' ⟨rfl, rfl⟩
    exact ⟨rfl, h, TlbOnly.refl _ _⟩
/-- What chapter 6's own Drop throws out. -/
def outR (a c : Int) (al : Bool) (x : TransX) : Bool := al || (x.s == a && (c == -1 || x.p == c))
set_option maxRecDepth 100000 in
set_option maxHeartbeats 4000000 in
theorem refDrop_any (w : World) (b : Nat) (S : Nat → TransX × TransX × Int) (a c : Int) (al : Bool) (h : RefAt w b S) (hS : Oks S) :
    Calls Try.prog 19 #[.pointer (some ⟨b, 0, none⟩), .int .i64 a, .int .i64 c, .bool al] w fun e w' => e = .returned (.int .i64 (dropF S (outR a c al) (fullP S 8)).2) ∧ RefAt w' b (dropF S (outR a c al) (fullP S 8)).1 ∧ TlbOnly b w w' := by
  have HS := Lib.hid hS.way
  have h0 : fullP S 0 = [] := rfl
  have hz : dropF S (outR a c al) [] = (S, 0) := rfl
  have HH := Lib.hid h
  have HO0 := Lib.hid h0
  have HZ := Lib.hid hz
  clear h hS h0 hz
  go_enter Try.func19, Try.ntmps19
  go_wp2
  go_loopw [9, 10, 11] (fun d i _ wr => ∃ k : Nat, k ≤ 4 ∧ i = .int .i64 k ∧ d = .int .i64 (dropF S (outR a c al) (fullP S (2 * k))).2 ∧ RefAt wr b (dropF S (outR a c al) (fullP S (2 * k))).1 ∧ TlbOnly b w wr) (fun _ i _ _ => 4 - (intOf i).toNat)
  case atStart => exact ⟨0, by omega, rfl, by rw [Nat.mul_zero, HO0.out, HZ.out]; rfl, by rw [Nat.mul_zero, HO0.out, HZ.out]; exact HH.out, TlbOnly.refl _ _⟩
  case round =>
    obtain ⟨k, hk, rfl, rfl, hR, hO⟩ := hrel
    by_cases hlt : k < 4
    · have hlt' : (k : Int) < 4 := by omega
      have HR0 := Lib.hid hR
      clear hR
      obtain ⟨m0, hm0⟩ : ∃ m, (dropF S (outR a c al) (fullP S (2 * k))).2 = m := ⟨_, rfl⟩
      rw [hm0]
      have HM0 := Lib.hid hm0
      clear hm0
      go_wp2
      obtain ⟨wo, hwo⟩ : ∃ wo : World, wo = wr := ⟨_, rfl⟩
      rw [← hwo] at HR0 hO ⊢
      clear hwo
      go_loopw [9, 11] (fun d i wi => ∃ j : Nat, j ≤ 2 ∧ i = .int .i64 j ∧ d = .int .i64 (dropF S (outR a c al) (fullP S (2 * k + j))).2 ∧ RefAt wi b (dropF S (outR a c al) (fullP S (2 * k + j))).1 ∧ TlbOnly b w wi) (fun _ i _ => 2 - (intOf i).toNat)
      case atStart => exact ⟨0, by omega, rfl, by rw [Nat.add_zero, HM0.out], HR0.out, hO⟩
      case round =>
        obtain ⟨j, hj, rfl, rfl, hR, hO2⟩ := hrel
        by_cases hjl : j < 2
        · have hjl' : (j : Int) < 2 := by omega
          obtain ⟨c0, c1, c2, c3, c4⟩ := hR.way k j hlt hjl
          have hfz := hR.free
          have hbl := hR.lt
          have hle : (dropF S (outR a c al) (fullP S (2 * k + j))).2 ≤ 8 := by
            have := dropF_le (outR a c al) (fullP S (2 * k + j)) (S, 0)
            have h2 := fullP_len S (2 * k + j)
            unfold dropF
            simp only at this
            omega
          have hwy : wayP (dropF S (outR a c al) (fullP S (2 * k + j))).1 (k, j) = wayP S (k, j) := dropF_no hjl fullP_not
          have hst := fullP_succ S k j hjl
          have hok := HS.out k j hlt hjl
          have hsn := dropF_snoc S (outR a c al) (fullP S (2 * k + j)) (k, j)
          unfold dropStep at hsn
          rw [hwy] at c0 c1 c2 c3 c4 hsn
          have HR := Lib.hid hR
          obtain ⟨⟨T, m⟩, hT⟩ : ∃ s, dropF S (outR a c al) (fullP S (2 * k + j)) = s := ⟨_, rfl⟩
          rw [hT] at hle HR hsn ⊢
          simp only at hle HR hsn
          obtain ⟨x, hx⟩ : ∃ x, wayP S (k, j) = x := ⟨_, rfl⟩
          rw [hx] at c0 c1 c2 c3 c4 hok hst hsn
          have HST := Lib.hid hst
          have HSN := Lib.hid hsn
          have HT := Lib.hid hT
          clear hx hR hwy hst hsn hT
          rcases hok with rfl | hok
          · have hzz : fullP S (2 * k + j + 1) = fullP S (2 * k + j) := by rw [HST.out, if_neg (by simp), List.append_nil]
            have HZZ := Lib.hid hzz
            clear hzz
            go_wp2
            go_roundw
            case rel => exact ⟨j + 1, by omega, by go_num, by rw [← Nat.add_assoc, HZZ.out, HT.out], by rw [← Nat.add_assoc, HZZ.out, HT.out]; exact HR.out.call (bal (Below.refl _ _) _), hO2.trans (TlbOnly.of_below (bal (Below.refl _ _) _))⟩
            case measure => simp [intOf]; omega
          · have hnz : x ≠ zT := fun e => by rw [e] at hok; simp at hok
            have hpos : 0 < x.s := by omega
            have hyy : fullP S (2 * k + j + 1) = fullP S (2 * k + j) ++ [(k, j)] := by rw [HST.out, if_pos hnz]
            have HYY := Lib.hid hyy
            clear hyy hnz
            obtain ⟨s, p, f, r, q⟩ := x
            simp only at c0 c1 c2 c3 c4 hpos
            obtain ⟨o, ho⟩ : ∃ o, outR a c al ⟨s, p, f, r, q⟩ = o := ⟨_, rfl⟩
            have HQ : Hid (dropF S (outR a c al) (fullP S (2 * k + j + 1)) = if o = true then (wipeP T (k, j), m + 1) else (T, m)) := Lib.hid (by rw [HYY.out, HSN.out, ho])
            unfold outR at ho
            simp only at ho
            cases al
            · cases h1 : (s == a)
              · obtain rfl : o = false := by simpa [h1] using ho.symm
                simp only [if_true, Bool.false_eq_true, if_false] at HQ
                clear ho
                go_wp2
                go_roundw
                case rel => exact ⟨j + 1, by omega, by go_num, by rw [← Nat.add_assoc, HQ.out], by rw [← Nat.add_assoc, HQ.out]; exact HR.out.call (bal (Below.refl _ _) _), hO2.trans (TlbOnly.of_below (bal (Below.refl _ _) _))⟩
                case measure => simp [intOf]; omega
              · cases h2 : (c == -1)
                · cases h3 : (p == c)
                  · obtain rfl : o = false := by simpa [h1, h2, h3] using ho.symm
                    simp only [if_true, Bool.false_eq_true, if_false] at HQ
                    clear ho
                    go_wp2
                    go_roundw
                    case rel => exact ⟨j + 1, by omega, by go_num, by rw [← Nat.add_assoc, HQ.out], by rw [← Nat.add_assoc, HQ.out]; exact HR.out.call (bal (Below.refl _ _) _), hO2.trans (TlbOnly.of_below (bal (Below.refl _ _) _))⟩
                    case measure => simp [intOf]; omega
                  · obtain rfl : o = true := by simpa [h1, h2, h3] using ho.symm
                    simp only [if_true, Bool.false_eq_true, if_false] at HQ
                    clear ho
                    go_wp2
                    go_roundw
                    case rel => exact ⟨j + 1, by omega, by go_num, by rw [← Nat.add_assoc, HQ.out]; go_num, by rw [← Nat.add_assoc, HQ.out]; exact (ref_wipe HR.out hlt hjl).call (bal (Below.refl _ _) _), hO2.trans ((only_put _ _ _ _ _ _ _ _).trans (TlbOnly.of_below (bal (Below.refl _ _) _)))⟩
                    case measure => simp [intOf]; omega
                · obtain rfl : o = true := by simpa [h1, h2] using ho.symm
                  simp only [if_true, Bool.false_eq_true, if_false] at HQ
                  clear ho
                  go_wp2
                  go_roundw
                  case rel => exact ⟨j + 1, by omega, by go_num, by rw [← Nat.add_assoc, HQ.out]; go_num, by rw [← Nat.add_assoc, HQ.out]; exact (ref_wipe HR.out hlt hjl).call (bal (Below.refl _ _) _), hO2.trans ((only_put _ _ _ _ _ _ _ _).trans (TlbOnly.of_below (bal (Below.refl _ _) _)))⟩
                  case measure => simp [intOf]; omega
            · obtain rfl : o = true := by simpa using ho.symm
              simp only [if_true, Bool.false_eq_true, if_false] at HQ
              clear ho
              go_wp2
              go_roundw
              case rel => exact ⟨j + 1, by omega, by go_num, by rw [← Nat.add_assoc, HQ.out]; go_num, by rw [← Nat.add_assoc, HQ.out]; exact (ref_wipe HR.out hlt hjl).call (bal (Below.refl _ _) _), hO2.trans ((only_put _ _ _ _ _ _ _ _).trans (TlbOnly.of_below (bal (Below.refl _ _) _)))⟩
              case measure => simp [intOf]; omega
        · obtain rfl : j = 2 := by omega
          go_wp2
          go_roundw
          case rel => exact ⟨k + 1, by omega, by go_num, rfl, hR, hO2⟩
          case measure => simp [intOf]; omega
    · obtain rfl : k = 4 := by omega
      go_wp2
      go_ret
      exact ⟨rfl, hR, hO⟩
end Go.Proofs.Ytimgiplcejcaaaa
