/- Chapter 6's own Fill. -/
import Derived.Test.YtimgiplcejcaaaaTlbZ
namespace Go.Proofs.Ytimgiplcejcaaaa
set_option linter.unusedVariables false
set_option linter.unusedSimpArgs false
open Go.ChangeShapes Go.WideShapes Go.ChangeAt Go.RowKit

theorem fill_match {S : Nat → TransX × TransX × Int} {t : TransX} {j : Nat} (ht : mayX t = true) (hj : j < 2) (h : (wayP S (setNo t.p, j)).s = t.s ∧ (wayP S (setNo t.p, j)).p = t.p) (hb : ∀ j', j' < j → ¬ ((wayP S (setNo t.p, j')).s = t.s ∧ (wayP S (setNo t.p, j')).p = t.p)) : fillS S t = putW S (setNo t.p, j) t := by
  unfold fillS
  rw [if_pos ht]
  obtain rfl | rfl : j = 0 ∨ j = 1 := by omega
  · simp only [wayP, if_true] at h
    simp [fillR, findR, h, putW]
  · have h0 := hb 0 (by omega)
    simp only [wayP, if_true, show ((1 : Nat) = 0) = False by simp, if_false] at h h0
    simp [fillR, findR, h, h0, putW]
theorem fill_empty {S : Nat → TransX × TransX × Int} {t : TransX} {j : Nat} (ht : mayX t = true) (hj : j < 2) (ok : ∀ j', j' < 2 → OkT (wayP S (setNo t.p, j'))) (hn : ∀ j', j' < 2 → ¬ ((wayP S (setNo t.p, j')).s = t.s ∧ (wayP S (setNo t.p, j')).p = t.p)) (h : (wayP S (setNo t.p, j)).s = 0) (hb : ∀ j', j' < j → (wayP S (setNo t.p, j')).s ≠ 0) : fillS S t = putW S (setNo t.p, j) t := by
  have z : ∀ x, OkT x → x.s = 0 → x = zT := fun x o e => o.elim id (fun g => by omega)
  unfold fillS
  rw [if_pos ht]
  have n0 := hn 0 (by omega)
  have n1 := hn 1 (by omega)
  have o0 := ok 0 (by omega)
  have o1 := ok 1 (by omega)
  simp only [wayP, if_true, show ((1 : Nat) = 0) = False by simp, if_false] at n0 n1 o0 o1
  obtain rfl | rfl : j = 0 ∨ j = 1 := by omega
  · simp only [wayP, if_true] at h
    have := z _ o0 h
    rw [this] at n0
    simp [fillR, findR, emptyR, this, n1, n0, putW]
  · have h0 := hb 0 (by omega)
    simp only [wayP, if_true, show ((1 : Nat) = 0) = False by simp, if_false] at h h0
    have := z _ o1 h
    have nz : (S (setNo t.p)).1 ≠ zT := fun e => h0 (by rw [e])
    rw [this] at n1
    simp [fillR, findR, emptyR, this, n1, n0, nz, putW]
theorem fill_due {S : Nat → TransX × TransX × Int} {t : TransX} (ht : mayX t = true) (hn : ∀ j', j' < 2 → ¬ ((wayP S (setNo t.p, j')).s = t.s ∧ (wayP S (setNo t.p, j')).p = t.p)) (hb : ∀ j', j' < 2 → (wayP S (setNo t.p, j')).s ≠ 0) :
    fillS S t = setS S (setNo t.p) (if (S (setNo t.p)).2.2 = 0 then (t, (S (setNo t.p)).2.1, 1) else ((S (setNo t.p)).1, t, 0)) := by
  unfold fillS
  rw [if_pos ht]
  have n0 := hn 0 (by omega)
  have n1 := hn 1 (by omega)
  have h0 := hb 0 (by omega)
  have h1 := hb 1 (by omega)
  simp only [wayP, if_true, show ((1 : Nat) = 0) = False by simp, if_false] at n0 n1 h0 h1
  have z0 : (S (setNo t.p)).1 ≠ zT := fun e => h0 (by rw [e])
  have z1 : (S (setNo t.p)).2.1 ≠ zT := fun e => h1 (by rw [e])
  simp [fillR, findR, emptyR, n0, n1, z0, z1]
theorem ref_due {w : World} {b k : Nat} {S : Nat → TransX × TransX × Int} (h : RefAt w b S) (hk : k < 4) (d : Int) : RefAt (w.setCell ⟨b, 40 + k, none⟩ (.int .i64 d)) b (setS S k ((S k).1, (S k).2.1, d)) := by
  refine ⟨fun k' j' hk' hj' => ?_, fun k' hk' => ?_, fun i => ?_, by simpa using h.lt⟩
  · obtain ⟨c0, c1, c2, c3, c4⟩ := h.way k' j' hk' hj'
    have e : wayP (setS S k ((S k).1, (S k).2.1, d)) (k', j') = wayP S (k', j') := by
      unfold wayP setS
      by_cases hkk : k' = k
      · subst hkk; simp
      · simp [hkk]
    rw [e]
    refine ⟨?_, ?_, ?_, ?_, ?_⟩
    all_goals (rw [World.cell?_setCell_other]; assumption; intro e; simp only [Addr.mk.injEq, true_and, and_true] at e; omega)
  · have c := h.due k' hk'
    unfold setS
    by_cases hkk : k' = k
    · subst hkk; simp [go_sem, c]
    · rw [World.cell?_setCell_other, if_neg hkk]
      · exact c
      · intro e; simp only [Addr.mk.injEq, true_and, and_true] at e; omega
  · simp [go_sem, h.free i]
theorem put_due0 {S : Nat → TransX × TransX × Int} {k : Nat} {t : TransX} {d : Int} : setS (putW S (k, 0) t) k ((putW S (k, 0) t k).1, (putW S (k, 0) t k).2.1, d) = setS S k (t, (S k).2.1, d) := by
  funext i
  by_cases h : i = k <;> simp [putW, setS, h]
theorem put_due1 {S : Nat → TransX × TransX × Int} {k : Nat} {t : TransX} {d : Int} : setS (putW S (k, 1) t) k ((putW S (k, 1) t k).1, (putW S (k, 1) t k).2.1, d) = setS S k ((S k).1, t, d) := by
  funext i
  by_cases h : i = k <;> simp [putW, setS, h]
theorem TlbOnly.drew {b : Nat} {a c : World} (h : TlbOnly b a c) : TlbOnly b a c.drew := ⟨h.os, h.tape, h.output, h.size, h.block⟩
theorem only_one (w : World) (b o : Nat) (v : Value) : TlbOnly b w (w.setCell ⟨b, o, none⟩ v) := ((SetOnly.refl b o w).set o v (by omega) (by omega)).tlb
theorem RefAt.drewN {w : World} {b : Nat} {S : Nat → TransX × TransX × Int} (h : RefAt w b S) (k : Nat) : RefAt (w.drewN k) b S := h.of_block (by rw [World.heap_drewN]; exact Nat.le_refl _) (by rw [World.heap_drewN])
set_option maxRecDepth 100000 in
set_option maxHeartbeats 1000000 in
theorem refFill_no (w : World) (b : Nat) (t : TransX) (ht : mayX t = false) :
    Calls Try.prog 13 #[.pointer (some ⟨b, 0, none⟩), trX t] w fun e w' => e = .returned (.int .i64 2) ∧ Below w.heap.size w w' := by
  have HM := Lib.hid ht
  clear ht
  go_enter Try.func13, Try.ntmps13
  go_wp2_with (first
    | (go_at_call 31; refine (refMay_any t _).mono ?_; rw [HM.out]; rintro e w1 ⟨rfl, hb1⟩))
  go_ret
  exact ⟨rfl, bgo (bal (Below.refl _ _) _) hb1⟩
set_option maxRecDepth 100000 in
set_option maxHeartbeats 4000000 in
theorem refFill_yes (w : World) (b : Nat) (S : Nat → TransX × TransX × Int) (t : TransX) (h : RefAt w b S) (hS : Oks S) (ht : mayX t = true) :
    Calls Try.prog 13 #[.pointer (some ⟨b, 0, none⟩), trX t] w fun e w' => e = .returned (.int .i64 0) ∧ RefAt w' b (fillS S t) ∧ TlbOnly b w w' := by
  have hp := may_pos ht
  have hk := setNo_lt hp.2.1
  have hkk : t.p % 4 = (setNo t.p : Nat) := by unfold setNo; omega
  have hpp : 0 ≤ t.p := hp.2.1
  have hdd := (hS _ hk).2.2
  have HM := Lib.hid ht
  have H := Lib.hid h
  have HOK := Lib.hid (fun j' (hj' : j' < 2) => hS.way (setNo t.p) j' hk hj')
  have fm := fun j hj a b => fill_match (S := S) (j := j) ht hj a b
  have fe := fun j hj a b c => fill_empty (S := S) (j := j) ht hj HOK.out a b c
  have fd := fun a b => fill_due (S := S) ht a b
  have hb := h.lt
  have hp5 : t.p < 512 := hp.2.2.1
  generalize hKK : setNo t.p = K at hk hkk hdd HOK fm fe fd
  have hk' : (K : Int) < 4 := by omega
  have FM := Lib.hid fm
  have FE := Lib.hid fe
  have FD := Lib.hid fd
  have HKK := Lib.hid hkk
  clear ht h hS fm fe fd hkk hKK hp
  go_enter Try.func13, Try.ntmps13
  go_wp2_with (first
    | (go_at_call 31; refine (refMay_any t _).mono ?_; rw [HM.out]; rintro e w1 ⟨rfl, hb1⟩; obtain ⟨x0, x1, x2, x3, x4⟩ := (TCells.new w t _).below hb1 (by simp); simp only [Nat.zero_mul, Nat.zero_add] at x0 x1 x2 x3 x4))
  rw [HKK.out]
  have hs1 : w.heap.size < w1.heap.size := by have := hb1.size; simp at this; omega
  have BW : Below w.heap.size w w1 := bgo (bal (Below.refl _ _) _) hb1
  have H1 := Lib.hid (H.out.call BW)
  have X1 : TCells w1 w.heap.size 0 t := ⟨by simpa using x0, by simpa using x1, by simpa using x2, by simpa using x3, by simpa using x4⟩
  have HX := Lib.hid X1
  have HBW := Lib.hid BW
  clear x0 x1 x2 x3 x4 hb1 BW X1
  go_loopw [6] (fun i wr => ∃ j : Nat, j ≤ 2 ∧ i = .int .i64 j ∧ Hid (∀ j', j' < j → ¬ ((wayP S (K, j')).s = t.s ∧ (wayP S (K, j')).p = t.p)) ∧ Kept w1.heap.size w1 wr) (fun i _ => 2 - (intOf i).toNat)
  case atStart => exact ⟨0, by omega, rfl, Lib.hid fun _ h => absurd h (by omega), Kept.refl (Nat.le_refl _)⟩
  case round =>
    obtain ⟨j, hj, rfl, hno, hK⟩ := hrel
    by_cases hjl : j < 2
    · have hjl' : (j : Int) < 2 := by omega
      have hR := H1.out.call hK.1
      obtain ⟨c0, c1, c2, c3, c4⟩ := hR.way K j hk hjl
      obtain ⟨x0, x1, x2, x3, x4⟩ := HX.out.kept hK hs1
      simp only [Nat.zero_mul, Nat.zero_add] at x0 x1 x2 x3 x4
      have hfz := hR.free
      have fmj := FM.out j hjl
      obtain ⟨x, hx⟩ : ∃ x, wayP S (K, j) = x := ⟨_, rfl⟩
      rw [hx] at c0 c1 c2 c3 c4 fmj
      have HXX := Lib.hid hx
      have HFM := Lib.hid fmj
      have HR := Lib.hid hR
      clear hx fmj hR
      have no : ¬ (x.s = t.s ∧ x.p = t.p) → ∃ j_1 : Nat, j_1 ≤ 2 ∧ Value.int .i64 ((j : Int) + 1) = .int .i64 j_1 ∧ Hid (∀ j', j' < j_1 → ¬ ((wayP S (K, j')).s = t.s ∧ (wayP S (K, j')).p = t.p)) := fun hn => ⟨j + 1, by omega, by go_num, Lib.hid fun j' h' => (by
        rcases Nat.lt_or_ge j' j with g | g
        · exact hno.out j' g
        · obtain rfl : j' = j := by omega
          rw [HXX.out]; exact hn)⟩
      have NO := Lib.hid no
      clear no
      cases h1 : (x.s == t.s)
      · go_wp2
        go_quiet (fail)
        all_goals
          go_wp2
          go_roundw
          case rel => obtain ⟨i1, a1, a2, a3⟩ := NO.out (fun h => by simp [h.1] at h1); exact ⟨i1, a1, a2, a3, hK.drewN _⟩
          case measure => simp [intOf]; omega
      · cases h2 : (x.p == t.p)
        · go_wp2
          go_quiet (fail)
          all_goals
            go_wp2
            go_roundw
            case rel => obtain ⟨i1, a1, a2, a3⟩ := NO.out (fun h => by simp [h.2] at h2); exact ⟨i1, a1, a2, a3, hK.drewN _⟩
            case measure => simp [intOf]; omega
        · have hff := HFM.out ⟨by simpa using h1, by simpa using h2⟩ hno.out
          have HFF := Lib.hid hff
          clear hff
          go_wp2
          go_quiet (fail)
          all_goals
            go_wp2
            go_region
            go_wp2
            go_ret
            rw [HFF.out]
            refine ⟨rfl, ?_, ?_⟩
            · exact ref_put (HR.out.drewN _) hk hjl t
            · exact (TlbOnly.of_below (bgo HBW.out (hK.drewN _).1)).trans (only_put _ _ _ _ _ _ _ _)
    · obtain rfl : j = 2 := by omega
      have HNO := hno
      go_wp2
      obtain ⟨wo, hwo⟩ : ∃ wo : World, wo = wr := ⟨_, rfl⟩
      rw [← hwo] at hK ⊢
      clear hwo hno
      go_loopw [7] (fun i wr => ∃ j : Nat, j ≤ 2 ∧ i = .int .i64 j ∧ Hid (∀ j', j' < j → (wayP S (K, j')).s ≠ 0) ∧ Kept w1.heap.size w1 wr) (fun i _ => 2 - (intOf i).toNat)
      case atStart => exact ⟨0, by omega, rfl, Lib.hid fun _ h => absurd h (by omega), hK⟩
      case round =>
        obtain ⟨j, hj, rfl, hno, hK2⟩ := hrel
        have hR := H1.out.call hK2.1
        have hfz := hR.free
        by_cases hjl : j < 2
        · have hjl' : (j : Int) < 2 := by omega
          obtain ⟨c0, c1, c2, c3, c4⟩ := hR.way K j hk hjl
          obtain ⟨x0, x1, x2, x3, x4⟩ := HX.out.kept hK2 hs1
          simp only [Nat.zero_mul, Nat.zero_add] at x0 x1 x2 x3 x4
          have fej := FE.out j hjl HNO.out
          obtain ⟨x, hx⟩ : ∃ x, wayP S (K, j) = x := ⟨_, rfl⟩
          rw [hx] at c0 c1 c2 c3 c4 fej
          have HXX := Lib.hid hx
          have HFE := Lib.hid fej
          have HR := Lib.hid hR
          clear hx fej hR
          cases h1 : (x.s == 0)
          · have h1' : x.s ≠ 0 := by simpa using h1
            have H1' := Lib.hid h1'
            clear h1'
            go_wp2
            go_roundw
            case rel => exact ⟨j + 1, by omega, by go_num, Lib.hid fun j' h' => (by
              rcases Nat.lt_or_ge j' j with g | g
              · exact hno.out j' g
              · obtain rfl : j' = j := by omega
                rw [HXX.out]; exact H1'.out), hK2⟩
            case measure => simp [intOf]; omega
          · have hff := HFE.out (by simpa using h1) hno.out
            have HFF := Lib.hid hff
            clear hff
            go_wp2
            go_region
            go_wp2
            go_ret
            rw [HFF.out]
            refine ⟨rfl, ?_, ?_⟩
            · exact ref_put (HR.out.drew) hk hjl t
            · exact (TlbOnly.of_below (bgo HBW.out hK2.drew.1)).trans (only_put _ _ _ _ _ _ _ _)
        · obtain rfl : j = 2 := by omega
          obtain ⟨x0, x1, x2, x3, x4⟩ := HX.out.kept hK2 hs1
          simp only [Nat.zero_mul, Nat.zero_add] at x0 x1 x2 x3 x4
          have hd := hR.due K hk
          have c00 := hR.way K 0 hk (by omega)
          have c01 := hR.way K 1 hk (by omega)
          have hff := FD.out HNO.out hno.out
          have HR := Lib.hid hR
          rcases hdd with hdd | hdd
          · rw [if_pos hdd] at hff
            rw [hdd] at hd
            obtain ⟨c0, c1, c2, c3, c4⟩ := c00
            simp only [Nat.zero_mul, Nat.add_zero] at c0 c1 c2 c3 c4
            have HFF := Lib.hid hff
            clear hff c01 hR hdd
            go_wp2
            go_region
            go_wp2
            go_region
            go_wp2
            go_ret
            rw [HFF.out]
            refine ⟨rfl, ?_, ?_⟩
            · have p0 := ref_due (ref_put HR.out hk (show 0 < 2 by omega) t) hk 1
              rw [put_due0] at p0
              simp only [Nat.zero_mul, Nat.add_zero] at p0
              exact p0.drew.drew
            · exact (((TlbOnly.of_below (bgo HBW.out hK2.1)).trans (only_put _ _ _ _ _ _ _ _)).trans (only_one _ _ _ _)).drew.drew
          · rw [if_neg (by omega)] at hff
            rw [hdd] at hd
            obtain ⟨c0, c1, c2, c3, c4⟩ := c01
            simp only [Nat.one_mul] at c0 c1 c2 c3 c4
            have HFF := Lib.hid hff
            clear hff c00 hR hdd
            go_wp2
            go_region
            go_wp2
            go_region
            go_wp2
            go_ret
            rw [HFF.out]
            refine ⟨rfl, ?_, ?_⟩
            · have p0 := ref_due (ref_put HR.out hk (show 1 < 2 by omega) t) hk 0
              rw [put_due1] at p0
              simp only [Nat.one_mul, Nat.add_assoc, Nat.reduceAdd] at p0 ⊢
              exact p0.drew.drew
            · exact (((TlbOnly.of_below (bgo HBW.out hK2.1)).trans (only_put _ _ _ _ _ _ _ _)).trans (only_one _ _ _ _)).drew.drew
theorem refFill_any (w : World) (b : Nat) (S : Nat → TransX × TransX × Int) (t : TransX) (h : RefAt w b S) (hS : Oks S) :
    Calls Try.prog 13 #[.pointer (some ⟨b, 0, none⟩), trX t] w fun e w' => e = .returned (.int .i64 (codeF t)) ∧ RefAt w' b (fillS S t) ∧ TlbOnly b w w' := by
  cases hm : mayX t
  · refine (refFill_no w b t hm).mono ?_
    rintro e w' ⟨rfl, hb⟩
    unfold codeF fillS
    rw [hm]
    exact ⟨rfl, h.call hb, TlbOnly.of_below hb⟩
  · refine (refFill_yes w b S t h hS hm).mono ?_
    rintro e w' ⟨rfl, h2⟩
    unfold codeF
    rw [hm]
    exact ⟨rfl, h2⟩
end Go.Proofs.Ytimgiplcejcaaaa
