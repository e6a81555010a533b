/- The law TlbDropped. -/
import Derived.Test.YtimgiplcejcaaaaTlbM
import Derived.Test.YtimgiplcejcaaaaTlbOnce
import Derived.Deep.RegionHeld3
namespace Go.Proofs.Ytimgiplcejcaaaa
set_option linter.unusedVariables false
set_option linter.unusedSimpArgs false
open Go.ChangeShapes Go.WideShapes Go.ChangeAt Go.RowKit

theorem TlbAt.kept {w w' : World} {b : Nat} {S : Nat → TransX × TransX × Int} (h : TlbAt w b S) (k : Kept w.heap.size w w') : TlbAt w' b S := h.call k.1
theorem Kept.setCell {n : Nat} {a b : World} (h : Kept n a b) {A : Addr} (hk : n ≤ A.block) (v : Value) : Kept n a (b.setCell A v) := ⟨h.1.setCell hk v, by simpa using h.2⟩
theorem Kept.fst {n : Nat} {a b : World} (h : Kept n a b) : Below n a b := h.1
theorem keepT {wr w' : World} {g i : Nat} {s p : Value} (h0 : wr.cell? ⟨g, i * 5, none⟩ = some s) (h1 : wr.cell? ⟨g, i * 5 + 1, none⟩ = some p) (hg : g < wr.heap.size) (k : Kept wr.heap.size wr w') :
    w'.cell? ⟨g, i * 5, none⟩ = some s ∧ w'.cell? ⟨g, i * 5 + 1, none⟩ = some p ∧ Below wr.heap.size wr w' :=
  ⟨k.cell hg h0, k.cell hg h1, k.1⟩
set_option maxRecDepth 100000 in
set_option maxHeartbeats 2000000 in
theorem dropped_all {W : World} (p : Option Addr) (n c : Nat) (hx : n ≤ c ∧ c ≤ maxLen ∧ ∃ D, ActsAt W p n D) (a q : Int) :
    Calls Try.prog 5 #[.slice p n c, .int .i64 a, .int .i64 q, .bool true] W fun e w' => e = .returned (.bool true) ∧ Below W.heap.size W w' := by
  obtain ⟨h1, h2, D, hD⟩ := hx
  unfold maxLen at h2
  have HD := Lib.hid hD
  clear hD
  by_cases hn : 120 < n
  · go_enter Try.func5, Try.ntmps5
    go_wp2_with (first
      | (go_at_call 9; refine (awake6 _).mono ?_; rintro e w3 ⟨rfl, hb3⟩))
    go_ret
    exact ⟨rfl, hb3⟩
  · have hn' : n ≤ 120 := by omega
    have hG := good_play D n
    obtain ⟨S, hS⟩ : ∃ S, playS D n = S := ⟨_, rfl⟩
    rw [hS] at hG
    have HS := Lib.hid hS
    have HG := Lib.hid hG
    clear hG hn hS
    have hlen : allN S ≤ 8 := fullP_len S 8
    have h0 := leftC_zero S (spaceOut a)
    have hend := leftC_end S (spaceOut a)
    have hl8 := leftC_le S (spaceOut a) 0
    have H0 := Lib.hid h0
    have HE := Lib.hid hend
    clear h0 hend
    obtain ⟨z, hz⟩ : ∃ z, leftC S (spaceOut a) 0 = z := ⟨_, rfl⟩
    rw [hz] at hl8 H0
    have HZ := Lib.hid hz
    clear hz
    go_enter Try.func5, Try.ntmps5
    go_wp2_with (first
      | (go_at_call 26; refine (played_any W p n c D HD.out hn').mono ?_; rw [HS.out]; rintro e w1 ⟨rfl, ht1, hb1⟩)
      | (go_at_call 22; refine (tall_any _ W.heap.size S ht1 HG.out.ok).mono ?_; rintro e w2 ⟨p2, c2, g, rfl, hp2, hr2, hb2⟩; have ht1' := ht1.call hb2; have HP2 := Lib.hid hp2; clear hp2)
      | (go_at_call 20; refine (dropSpace_any _ W.heap.size S a ht1' HG.out.ok.way).mono ?_; rw [← H0.out]; rintro e w4 ⟨rfl, ht4, ho4⟩))
    have hB := bgo hb1 hb2
    have hlt1 := ht1.lt
    have hlt2 := ht1'.lt
    have HR2 := Lib.hid hr2
    have hsz := hb2.size
    have hB4 : Below W.heap.size W w4 := hB.trans (ho4.below (Nat.le_refl _) hlt2)
    have hrow4 : ∀ i, i < allN S → TCells w4 g i (allT S i) := fun i hi => by
      obtain ⟨_, hg1, hg2⟩ := HP2.out (by omega)
      obtain ⟨c0, c1, c2, c3, c4⟩ := HR2.out i hi
      exact ⟨ho4.cell hg2 (by omega) c0, ho4.cell hg2 (by omega) c1, ho4.cell hg2 (by omega) c2, ho4.cell hg2 (by omega) c3, ho4.cell hg2 (by omega) c4⟩
    have HR4 := Lib.hid hrow4
    have hs4 := ho4.size
    obtain ⟨T, hT⟩ : ∃ T, (dropF S (spaceOut a) (fullP S 8)).1 = T := ⟨_, rfl⟩
    rw [hT] at ht4
    have HTT := Lib.hid hT
    clear hrow4 hT hr2
    go_loopw [11, 12] (fun d i wr => ∃ k : Nat, k ≤ allN S ∧ i = .int .i64 k ∧ d = .int .i64 (leftC S (spaceOut a) k) ∧ TlbAt wr W.heap.size T ∧ Below w4.heap.size w4 wr) (fun _ i _ => allN S - (intOf i).toNat)
    case atStart => exact ⟨0, by omega, rfl, by rw [HZ.out], ht4, Below.refl _ _⟩
    case round =>
      obtain ⟨k, hk, rfl, rfl, hTr, hW⟩ := hrel
      by_cases hlt : k < allN S
      · obtain ⟨rfl, hg1, hg2⟩ := HP2.out (by omega)
        obtain ⟨c0, c1, c2, c3, c4⟩ := (HR4.out k hlt).below hW (by omega)
        have hfd := drop_find HG.out (spaceOut a) hlt
        rw [HTT.out] at hfd
        have hsc := leftC_succ (S := S) (spaceOut a) hlt
        have hsz1 := hW.size
        have hgr : g < wr.heap.size := by omega
        have HT := Lib.hid hTr
        clear hTr
        obtain ⟨x, hx⟩ : ∃ x, allT S k = x := ⟨_, rfl⟩
        rw [hx] at c0 c1 c2 c3 c4 hfd hsc
        have HX := Lib.hid hx
        clear hx c2 c3 c4
        cases hs : (x.s == a)
        · have hout : (spaceOut a) x = false := by simp [spaceOut, hs]
          rw [hout] at hfd
          rw [hout] at hsc
          have HFD := Lib.hid hfd
          have HSC := Lib.hid hsc
          clear hfd hsc hout
          simp only [Bool.not_true, Bool.not_false, if_true, Bool.false_eq_true, if_false] at HFD HSC
          obtain ⟨m, hm⟩ : ∃ m, leftC S (spaceOut a) (k + 1) = m := ⟨_, rfl⟩
          have hm8 := leftC_le S (spaceOut a) (k + 1)
          rw [hm] at hm8
          have HM := Lib.hid hm
          rw [hm] at HSC
          clear hm
          rw [HSC.out]
          go_wp2
          go_region_held3 (fun w' => w'.cell? ⟨g, k * 5, none⟩ = some (.int .i64 x.s) ∧ w'.cell? ⟨g, k * 5 + 1, none⟩ = some (.int .i64 x.p) ∧ Below wr.heap.size wr w')
            (first | (refine keepT c0 c1 hgr ?_; repeat (first | with_reducible exact Kept.refl (Nat.le_refl _) | with_reducible refine Kept.drew ?_ | with_reducible refine Kept.drewN ?_ _ | with_reducible refine Kept.alloc ?_ _ | with_reducible refine Kept.call ?_ (by with_reducible assumption) | with_reducible refine Kept.setCell ?_ (by first | with_reducible exact Nat.le_refl _ | (have := hb3.size; simp at this ⊢; omega)) _)))
            (first
              | (go_at_call 14; refine (tfind_any _ W.heap.size T _ _ (HT.out.kept (by repeat (first | with_reducible exact Kept.refl (Nat.le_refl _) | with_reducible refine Kept.drew ?_ | with_reducible refine Kept.drewN ?_ _ | with_reducible refine Kept.alloc ?_ _ | with_reducible refine Kept.call ?_ (by with_reducible assumption) | with_reducible refine Kept.setCell ?_ (by first | with_reducible exact Nat.le_refl _ | (have := hb3.size; simp at this ⊢; omega)) _)))).mono ?_; rw [HFD.out]; rintro e w3 ⟨rfl, hb3⟩; obtain ⟨hc3, hf3⟩ := bcell hb3))
          all_goals
            go_wp2
            go_roundw
            case rel => exact ⟨k + 1, by omega, by go_num, by rw [HM.out], HT.out.kept (by repeat (first | with_reducible exact Kept.refl (Nat.le_refl _) | with_reducible refine Kept.drew ?_ | with_reducible refine Kept.drewN ?_ _ | with_reducible refine Kept.alloc ?_ _ | with_reducible refine Kept.call ?_ (by with_reducible assumption) | with_reducible refine Kept.setCell ?_ (by first | with_reducible exact Nat.le_refl _ | (have := hb3.size; simp at this ⊢; omega)) _)), (hW.trans (Below.mono (Kept.fst (n := wr.heap.size) (by repeat (first | with_reducible exact Kept.refl (Nat.le_refl _) | with_reducible refine Kept.drew ?_ | with_reducible refine Kept.drewN ?_ _ | with_reducible refine Kept.alloc ?_ _ | with_reducible refine Kept.call ?_ (by with_reducible assumption) | with_reducible refine Kept.setCell ?_ (by first | with_reducible exact Nat.le_refl _ | (have := hb3.size; simp at this ⊢; omega)) _))) (by omega)))⟩
            case measure => simp [intOf]; omega
        · have hout : (spaceOut a) x = true := by simp [spaceOut, hs]
          rw [hout] at hfd
          rw [hout] at hsc
          have HFD := Lib.hid hfd
          have HSC := Lib.hid hsc
          clear hfd hsc hout
          simp only [Bool.not_true, Bool.not_false, if_true, Bool.false_eq_true, if_false] at HFD HSC
          obtain ⟨m, hm⟩ : ∃ m, leftC S (spaceOut a) (k + 1) = m := ⟨_, rfl⟩
          have hm8 := leftC_le S (spaceOut a) (k + 1)
          rw [hm] at hm8
          have HM := Lib.hid hm
          rw [hm] at HSC
          clear hm
          rw [HSC.out]
          go_wp2
          go_region_held3 (fun w' => w'.cell? ⟨g, k * 5, none⟩ = some (.int .i64 x.s) ∧ w'.cell? ⟨g, k * 5 + 1, none⟩ = some (.int .i64 x.p) ∧ Below wr.heap.size wr w')
            (first | (refine keepT c0 c1 hgr ?_; repeat (first | with_reducible exact Kept.refl (Nat.le_refl _) | with_reducible refine Kept.drew ?_ | with_reducible refine Kept.drewN ?_ _ | with_reducible refine Kept.alloc ?_ _ | with_reducible refine Kept.call ?_ (by with_reducible assumption) | with_reducible refine Kept.setCell ?_ (by first | with_reducible exact Nat.le_refl _ | (have := hb3.size; simp at this ⊢; omega)) _)))
            (first
              | (go_at_call 14; refine (tfind_any _ W.heap.size T _ _ (HT.out.kept (by repeat (first | with_reducible exact Kept.refl (Nat.le_refl _) | with_reducible refine Kept.drew ?_ | with_reducible refine Kept.drewN ?_ _ | with_reducible refine Kept.alloc ?_ _ | with_reducible refine Kept.call ?_ (by with_reducible assumption) | with_reducible refine Kept.setCell ?_ (by first | with_reducible exact Nat.le_refl _ | (have := hb3.size; simp at this ⊢; omega)) _)))).mono ?_; rw [HFD.out]; rintro e w3 ⟨rfl, hb3⟩; obtain ⟨hc3, hf3⟩ := bcell hb3))
          all_goals
            go_wp2
            go_roundw
            case rel => exact ⟨k + 1, by omega, by go_num, by rw [HM.out], HT.out.kept (by repeat (first | with_reducible exact Kept.refl (Nat.le_refl _) | with_reducible refine Kept.drew ?_ | with_reducible refine Kept.drewN ?_ _ | with_reducible refine Kept.alloc ?_ _ | with_reducible refine Kept.call ?_ (by with_reducible assumption) | with_reducible refine Kept.setCell ?_ (by first | with_reducible exact Nat.le_refl _ | (have := hb3.size; simp at this ⊢; omega)) _)), (hW.trans (Below.mono (Kept.fst (n := wr.heap.size) (by repeat (first | with_reducible exact Kept.refl (Nat.le_refl _) | with_reducible refine Kept.drew ?_ | with_reducible refine Kept.drewN ?_ _ | with_reducible refine Kept.alloc ?_ _ | with_reducible refine Kept.call ?_ (by with_reducible assumption) | with_reducible refine Kept.setCell ?_ (by first | with_reducible exact Nat.le_refl _ | (have := hb3.size; simp at this ⊢; omega)) _))) (by omega)))⟩
            case measure => simp [intOf]; omega
      · obtain rfl : k = allN S := by omega
        rw [HE.out]
        go_wp2_with (first
          | (go_at_call 9; refine (awake6 _).mono ?_; rintro e w3 ⟨rfl, hb3⟩))
        go_ret
        exact ⟨rfl, bgo (hB4.trans (hW.mono (by omega))) hb3⟩
set_option maxRecDepth 100000 in
set_option maxHeartbeats 2000000 in
theorem dropped_one {W : World} (p : Option Addr) (n c : Nat) (hx : n ≤ c ∧ c ≤ maxLen ∧ ∃ D, ActsAt W p n D) (a q : Int) :
    Calls Try.prog 5 #[.slice p n c, .int .i64 a, .int .i64 q, .bool false] W fun e w' => e = .returned (.bool true) ∧ Below W.heap.size W w' := by
  obtain ⟨h1, h2, D, hD⟩ := hx
  unfold maxLen at h2
  have HD := Lib.hid hD
  clear hD
  by_cases hn : 120 < n
  · go_enter Try.func5, Try.ntmps5
    go_wp2_with (first
      | (go_at_call 9; refine (awake6 _).mono ?_; rintro e w3 ⟨rfl, hb3⟩))
    go_ret
    exact ⟨rfl, hb3⟩
  · have hn' : n ≤ 120 := by omega
    have hG := good_play D n
    obtain ⟨S, hS⟩ : ∃ S, playS D n = S := ⟨_, rfl⟩
    rw [hS] at hG
    have HS := Lib.hid hS
    have HG := Lib.hid hG
    clear hG hn hS
    have hlen : allN S ≤ 8 := fullP_len S 8
    have h0 := leftC_zero S (pageOut a q)
    have hend := leftC_end S (pageOut a q)
    have hl8 := leftC_le S (pageOut a q) 0
    have H0 := Lib.hid h0
    have HE := Lib.hid hend
    clear h0 hend
    obtain ⟨z, hz⟩ : ∃ z, leftC S (pageOut a q) 0 = z := ⟨_, rfl⟩
    rw [hz] at hl8 H0
    have HZ := Lib.hid hz
    clear hz
    go_enter Try.func5, Try.ntmps5
    go_wp2_with (first
      | (go_at_call 26; refine (played_any W p n c D HD.out hn').mono ?_; rw [HS.out]; rintro e w1 ⟨rfl, ht1, hb1⟩)
      | (go_at_call 22; refine (tall_any _ W.heap.size S ht1 HG.out.ok).mono ?_; rintro e w2 ⟨p2, c2, g, rfl, hp2, hr2, hb2⟩; have ht1' := ht1.call hb2; have HP2 := Lib.hid hp2; clear hp2)
      | (go_at_call 18; refine (dropPage_any _ W.heap.size S a q ht1' HG.out.ok.way).mono ?_; rw [← H0.out]; rintro e w4 ⟨rfl, ht4, ho4⟩))
    have hB := bgo hb1 hb2
    have hlt1 := ht1.lt
    have hlt2 := ht1'.lt
    have HR2 := Lib.hid hr2
    have hsz := hb2.size
    have hB4 : Below W.heap.size W w4 := hB.trans (ho4.below (Nat.le_refl _) hlt2)
    have hrow4 : ∀ i, i < allN S → TCells w4 g i (allT S i) := fun i hi => by
      obtain ⟨_, hg1, hg2⟩ := HP2.out (by omega)
      obtain ⟨c0, c1, c2, c3, c4⟩ := HR2.out i hi
      exact ⟨ho4.cell hg2 (by omega) c0, ho4.cell hg2 (by omega) c1, ho4.cell hg2 (by omega) c2, ho4.cell hg2 (by omega) c3, ho4.cell hg2 (by omega) c4⟩
    have HR4 := Lib.hid hrow4
    have hs4 := ho4.size
    obtain ⟨T, hT⟩ : ∃ T, (dropF S (pageOut a q) (fullP S 8)).1 = T := ⟨_, rfl⟩
    rw [hT] at ht4
    have HTT := Lib.hid hT
    clear hrow4 hT hr2
    go_loopw [11, 12] (fun d i wr => ∃ k : Nat, k ≤ allN S ∧ i = .int .i64 k ∧ d = .int .i64 (leftC S (pageOut a q) k) ∧ TlbAt wr W.heap.size T ∧ Below w4.heap.size w4 wr) (fun _ i _ => allN S - (intOf i).toNat)
    case atStart => exact ⟨0, by omega, rfl, by rw [HZ.out], ht4, Below.refl _ _⟩
    case round =>
      obtain ⟨k, hk, rfl, rfl, hTr, hW⟩ := hrel
      by_cases hlt : k < allN S
      · obtain ⟨rfl, hg1, hg2⟩ := HP2.out (by omega)
        obtain ⟨c0, c1, c2, c3, c4⟩ := (HR4.out k hlt).below hW (by omega)
        have hfd := drop_find HG.out (pageOut a q) hlt
        rw [HTT.out] at hfd
        have hsc := leftC_succ (S := S) (pageOut a q) hlt
        have hsz1 := hW.size
        have hgr : g < wr.heap.size := by omega
        have HT := Lib.hid hTr
        clear hTr
        obtain ⟨x, hx⟩ : ∃ x, allT S k = x := ⟨_, rfl⟩
        rw [hx] at c0 c1 c2 c3 c4 hfd hsc
        have HX := Lib.hid hx
        clear hx c2 c3 c4
        cases hs : (x.s == a)
        · have hout : (pageOut a q) x = false := by simp [pageOut, hs]
          rw [hout] at hfd
          rw [hout] at hsc
          have HFD := Lib.hid hfd
          have HSC := Lib.hid hsc
          clear hfd hsc hout
          simp only [Bool.not_true, Bool.not_false, if_true, Bool.false_eq_true, if_false] at HFD HSC
          obtain ⟨m, hm⟩ : ∃ m, leftC S (pageOut a q) (k + 1) = m := ⟨_, rfl⟩
          have hm8 := leftC_le S (pageOut a q) (k + 1)
          rw [hm] at hm8
          have HM := Lib.hid hm
          rw [hm] at HSC
          clear hm
          rw [HSC.out]
          go_wp2
          go_region_held3 (fun w' => w'.cell? ⟨g, k * 5, none⟩ = some (.int .i64 x.s) ∧ w'.cell? ⟨g, k * 5 + 1, none⟩ = some (.int .i64 x.p) ∧ Below wr.heap.size wr w')
            (first | (refine keepT c0 c1 hgr ?_; repeat (first | with_reducible exact Kept.refl (Nat.le_refl _) | with_reducible refine Kept.drew ?_ | with_reducible refine Kept.drewN ?_ _ | with_reducible refine Kept.alloc ?_ _ | with_reducible refine Kept.call ?_ (by with_reducible assumption) | with_reducible refine Kept.setCell ?_ (by first | with_reducible exact Nat.le_refl _ | (have := hb3.size; simp at this ⊢; omega)) _)))
            (first
              | (go_at_call 14; refine (tfind_any _ W.heap.size T _ _ (HT.out.kept (by repeat (first | with_reducible exact Kept.refl (Nat.le_refl _) | with_reducible refine Kept.drew ?_ | with_reducible refine Kept.drewN ?_ _ | with_reducible refine Kept.alloc ?_ _ | with_reducible refine Kept.call ?_ (by with_reducible assumption) | with_reducible refine Kept.setCell ?_ (by first | with_reducible exact Nat.le_refl _ | (have := hb3.size; simp at this ⊢; omega)) _)))).mono ?_; rw [HFD.out]; rintro e w3 ⟨rfl, hb3⟩; obtain ⟨hc3, hf3⟩ := bcell hb3))
          all_goals
            go_wp2
            go_roundw
            case rel => exact ⟨k + 1, by omega, by go_num, by rw [HM.out], HT.out.kept (by repeat (first | with_reducible exact Kept.refl (Nat.le_refl _) | with_reducible refine Kept.drew ?_ | with_reducible refine Kept.drewN ?_ _ | with_reducible refine Kept.alloc ?_ _ | with_reducible refine Kept.call ?_ (by with_reducible assumption) | with_reducible refine Kept.setCell ?_ (by first | with_reducible exact Nat.le_refl _ | (have := hb3.size; simp at this ⊢; omega)) _)), (hW.trans (Below.mono (Kept.fst (n := wr.heap.size) (by repeat (first | with_reducible exact Kept.refl (Nat.le_refl _) | with_reducible refine Kept.drew ?_ | with_reducible refine Kept.drewN ?_ _ | with_reducible refine Kept.alloc ?_ _ | with_reducible refine Kept.call ?_ (by with_reducible assumption) | with_reducible refine Kept.setCell ?_ (by first | with_reducible exact Nat.le_refl _ | (have := hb3.size; simp at this ⊢; omega)) _))) (by omega)))⟩
            case measure => simp [intOf]; omega
        · cases hp : (x.p == q)
          · have hout : (pageOut a q) x = false := by simp [pageOut, hs, hp]
            rw [hout] at hfd
            rw [hout] at hsc
            have HFD := Lib.hid hfd
            have HSC := Lib.hid hsc
            clear hfd hsc hout
            simp only [Bool.not_true, Bool.not_false, if_true, Bool.false_eq_true, if_false] at HFD HSC
            obtain ⟨m, hm⟩ : ∃ m, leftC S (pageOut a q) (k + 1) = m := ⟨_, rfl⟩
            have hm8 := leftC_le S (pageOut a q) (k + 1)
            rw [hm] at hm8
            have HM := Lib.hid hm
            rw [hm] at HSC
            clear hm
            rw [HSC.out]
            go_wp2
            go_region_held3 (fun w' => w'.cell? ⟨g, k * 5, none⟩ = some (.int .i64 x.s) ∧ w'.cell? ⟨g, k * 5 + 1, none⟩ = some (.int .i64 x.p) ∧ Below wr.heap.size wr w')
              (first | (refine keepT c0 c1 hgr ?_; repeat (first | with_reducible exact Kept.refl (Nat.le_refl _) | with_reducible refine Kept.drew ?_ | with_reducible refine Kept.drewN ?_ _ | with_reducible refine Kept.alloc ?_ _ | with_reducible refine Kept.call ?_ (by with_reducible assumption) | with_reducible refine Kept.setCell ?_ (by first | with_reducible exact Nat.le_refl _ | (have := hb3.size; simp at this ⊢; omega)) _)))
              (first
                | (go_at_call 14; refine (tfind_any _ W.heap.size T _ _ (HT.out.kept (by repeat (first | with_reducible exact Kept.refl (Nat.le_refl _) | with_reducible refine Kept.drew ?_ | with_reducible refine Kept.drewN ?_ _ | with_reducible refine Kept.alloc ?_ _ | with_reducible refine Kept.call ?_ (by with_reducible assumption) | with_reducible refine Kept.setCell ?_ (by first | with_reducible exact Nat.le_refl _ | (have := hb3.size; simp at this ⊢; omega)) _)))).mono ?_; rw [HFD.out]; rintro e w3 ⟨rfl, hb3⟩; obtain ⟨hc3, hf3⟩ := bcell hb3))
            all_goals
              go_wp2
              go_roundw
              case rel => exact ⟨k + 1, by omega, by go_num, by rw [HM.out], HT.out.kept (by repeat (first | with_reducible exact Kept.refl (Nat.le_refl _) | with_reducible refine Kept.drew ?_ | with_reducible refine Kept.drewN ?_ _ | with_reducible refine Kept.alloc ?_ _ | with_reducible refine Kept.call ?_ (by with_reducible assumption) | with_reducible refine Kept.setCell ?_ (by first | with_reducible exact Nat.le_refl _ | (have := hb3.size; simp at this ⊢; omega)) _)), (hW.trans (Below.mono (Kept.fst (n := wr.heap.size) (by repeat (first | with_reducible exact Kept.refl (Nat.le_refl _) | with_reducible refine Kept.drew ?_ | with_reducible refine Kept.drewN ?_ _ | with_reducible refine Kept.alloc ?_ _ | with_reducible refine Kept.call ?_ (by with_reducible assumption) | with_reducible refine Kept.setCell ?_ (by first | with_reducible exact Nat.le_refl _ | (have := hb3.size; simp at this ⊢; omega)) _))) (by omega)))⟩
              case measure => simp [intOf]; omega
          · have hout : (pageOut a q) x = true := by simp [pageOut, hs, hp]
            rw [hout] at hfd
            rw [hout] at hsc
            have HFD := Lib.hid hfd
            have HSC := Lib.hid hsc
            clear hfd hsc hout
            simp only [Bool.not_true, Bool.not_false, if_true, Bool.false_eq_true, if_false] at HFD HSC
            obtain ⟨m, hm⟩ : ∃ m, leftC S (pageOut a q) (k + 1) = m := ⟨_, rfl⟩
            have hm8 := leftC_le S (pageOut a q) (k + 1)
            rw [hm] at hm8
            have HM := Lib.hid hm
            rw [hm] at HSC
            clear hm
            rw [HSC.out]
            go_wp2
            go_region_held3 (fun w' => w'.cell? ⟨g, k * 5, none⟩ = some (.int .i64 x.s) ∧ w'.cell? ⟨g, k * 5 + 1, none⟩ = some (.int .i64 x.p) ∧ Below wr.heap.size wr w')
              (first | (refine keepT c0 c1 hgr ?_; repeat (first | with_reducible exact Kept.refl (Nat.le_refl _) | with_reducible refine Kept.drew ?_ | with_reducible refine Kept.drewN ?_ _ | with_reducible refine Kept.alloc ?_ _ | with_reducible refine Kept.call ?_ (by with_reducible assumption) | with_reducible refine Kept.setCell ?_ (by first | with_reducible exact Nat.le_refl _ | (have := hb3.size; simp at this ⊢; omega)) _)))
              (first
                | (go_at_call 14; refine (tfind_any _ W.heap.size T _ _ (HT.out.kept (by repeat (first | with_reducible exact Kept.refl (Nat.le_refl _) | with_reducible refine Kept.drew ?_ | with_reducible refine Kept.drewN ?_ _ | with_reducible refine Kept.alloc ?_ _ | with_reducible refine Kept.call ?_ (by with_reducible assumption) | with_reducible refine Kept.setCell ?_ (by first | with_reducible exact Nat.le_refl _ | (have := hb3.size; simp at this ⊢; omega)) _)))).mono ?_; rw [HFD.out]; rintro e w3 ⟨rfl, hb3⟩; obtain ⟨hc3, hf3⟩ := bcell hb3))
            all_goals
              go_wp2
              go_roundw
              case rel => exact ⟨k + 1, by omega, by go_num, by rw [HM.out], HT.out.kept (by repeat (first | with_reducible exact Kept.refl (Nat.le_refl _) | with_reducible refine Kept.drew ?_ | with_reducible refine Kept.drewN ?_ _ | with_reducible refine Kept.alloc ?_ _ | with_reducible refine Kept.call ?_ (by with_reducible assumption) | with_reducible refine Kept.setCell ?_ (by first | with_reducible exact Nat.le_refl _ | (have := hb3.size; simp at this ⊢; omega)) _)), (hW.trans (Below.mono (Kept.fst (n := wr.heap.size) (by repeat (first | with_reducible exact Kept.refl (Nat.le_refl _) | with_reducible refine Kept.drew ?_ | with_reducible refine Kept.drewN ?_ _ | with_reducible refine Kept.alloc ?_ _ | with_reducible refine Kept.call ?_ (by with_reducible assumption) | with_reducible refine Kept.setCell ?_ (by first | with_reducible exact Nat.le_refl _ | (have := hb3.size; simp at this ⊢; omega)) _))) (by omega)))⟩
              case measure => simp [intOf]; omega
      · obtain rfl : k = allN S := by omega
        rw [HE.out]
        go_wp2_with (first
          | (go_at_call 9; refine (awake6 _).mono ?_; rintro e w3 ⟨rfl, hb3⟩))
        go_ret
        exact ⟨rfl, bgo (hB4.trans (hW.mono (by omega))) hb3⟩
theorem walk_tlbDropped {W : World} (p : Option Addr) (n c : Nat) (hx : n ≤ c ∧ c ≤ maxLen ∧ ∃ D, ActsAt W p n D) (a : Int) (ha : (Lit.int .i64 a).wf = true) (q : Int) (hq : (Lit.int .i64 q).wf = true) (all : Bool) :
    Calls Try.prog 5 #[.slice p n c, .int .i64 a, .int .i64 q, .bool all] W fun e w' => e = .returned (.bool true) ∧ Below W.heap.size W w' := by
  cases all
  · exact dropped_one p n c hx a q
  · exact dropped_all p n c hx a q
end Go.Proofs.Ytimgiplcejcaaaa
