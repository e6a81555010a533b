/- Chapter 28's own answer: Decode. -/
import Derived.Test.YtahagcghbeeajaaDcO
import Derived.Deep.QuietTactic
namespace Go.Proofs.Ytahagcghbeeajaa
set_option linter.unusedVariables false
set_option linter.unusedSimpArgs false
open Go.ChangeShapes Go.WideShapes Go.ChangeAt Go.RowKit Go.Shelf
attribute [-go_sem] run_index_string

structure RefI (w wr : World) (B : Nat) (n : Int) (a : Nat → Int) : Prop where
  cal : CallAt wr B n a
  res : OrdAt wr (B + 1) zO
  bel : Below w.heap.size w wr
theorem refI_new (w : World) (n : Int) (a : Nat → Int) (B : Nat) (hB : w.heap.size = B) : RefI w ((w.alloc (.cells (callA n a) 25)).alloc (.cells #[.int .i64 0, .int .i64 0, .int .i64 0, .int .i64 0, .int .i64 0, .int .i64 0, .int .i64 0, .int .u64 0, .int .u64 0, .int .u64 0, .int .u64 0, .int .u64 0] 29)) B n a := by
  subst hB
  have e1 := World.size_alloc w (.cells (callA n a) 25)
  have n1 : OrdAt ((w.alloc (.cells (callA n a) 25)).alloc (.cells #[.int .i64 0, .int .i64 0, .int .i64 0, .int .i64 0, .int .i64 0, .int .i64 0, .int .i64 0, .int .u64 0, .int .u64 0, .int .u64 0, .int .u64 0, .int .u64 0] 29)) _ zO := World.alloc_heap_new (w.alloc (.cells (callA n a) 25)) (.cells #[.int .i64 0, .int .i64 0, .int .i64 0, .int .i64 0, .int .i64 0, .int .i64 0, .int .i64 0, .int .u64 0, .int .u64 0, .int .u64 0, .int .u64 0, .int .u64 0] 29)
  rw [e1] at n1
  exact ⟨alloc_old (call_new w n a) (by rw [e1]; omega), n1, bal (bal (Below.refl _ _) _) _⟩
theorem RefI.drewN {w wr : World} {B : Nat} {n : Int} {a : Nat → Int} (h : RefI w wr B n a) (k : Nat) : RefI w (wr.drewN k) B n a := ⟨by unfold CallAt; rw [World.heap_drewN]; exact h.cal, by unfold OrdAt; rw [World.heap_drewN]; exact h.res, below_drewN h.bel k⟩
set_option maxRecDepth 100000 in
set_option maxHeartbeats 4000000 in
theorem refdec_any (n : Nat) (a : Nat → Int) (ha : ∀ j < 6, 0 ≤ a j ∧ a j ≤ 18446744073709551615) (w : World) :
    Calls Try.prog 8 #[.agg (callA n a)] w fun e w' => e = .returned (.tuple #[ordV (decM n a).1, .int .i64 (decM n a).2]) ∧ Below w.heap.size w w' := by
  obtain ⟨⟨po, pc⟩, hm⟩ : ∃ z, decM n a = z := ⟨_, rfl⟩
  rw [hm]
  have HM := Lib.hid hm
  have HA := Lib.hid ha
  have hz : ∀ w, (zeroValue 29).run Try.prog w = .ok (.agg #[.int .i64 0, .int .i64 0, .int .i64 0, .int .i64 0, .int .i64 0, .int .i64 0, .int .i64 0, .int .u64 0, .int .u64 0, .int .u64 0, .int .u64 0, .int .u64 0]) w := zeroOrd
  have hc0 : (callA n a)[0]? = some (.int .u64 n) := rfl
  obtain ⟨S, hS⟩ : ∃ S, strO (ltr n) = S := ⟨_, rfl⟩
  obtain ⟨N, hN⟩ : ∃ N, (ltr n).length = N := ⟨_, rfl⟩
  have hSN : S.size = N := by rw [← hS, str_len, hN]
  have hq := str_q n
  rw [hS] at hq
  have hfm := form_any n
  rw [hS] at hfm
  have HFM := Lib.hid hfm
  have HS := Lib.hid hS
  have HN := Lib.hid hN
  clear hm ha hfm hS hN
  go_enter Try.func8, Try.ntmps8
  go_upto_region 2 with (first
    | (go_at_call 18; refine (HFM.out _).mono ?_; rintro e w1 ⟨rfl, rfl⟩))
  obtain ⟨B, hB⟩ : ∃ B, w.heap.size = B := ⟨_, rfl⟩
  have hI := refI_new w n a B hB
  generalize ((w.alloc (.cells (callA n a) 25)).alloc (.cells #[.int .i64 0, .int .i64 0, .int .i64 0, .int .i64 0, .int .i64 0, .int .i64 0, .int .i64 0, .int .u64 0, .int .u64 0, .int .u64 0, .int .u64 0, .int .u64 0] 29)) = w2 at hI ⊢
  rw [hB]
  have HI := Lib.hid hI
  clear hI
  have fin : ∀ (wr : World) (o : Nat → Int), RefI w wr B n a → OrdAt (wr.setCells (B + 1) 0 (ordA o).toList) (B + 1) o ∧ Below w.heap.size w (wr.setCells (B + 1) 0 (ordA o).toList) := fun wr o h => by
    obtain ⟨h1, h2⟩ := ord_put o h.res
    exact ⟨h1, h.bel.trans (h2.below (by omega) h.bel.size)⟩
  have FIN := Lib.hid fin
  clear fin
  cases hL : formsL n with
  | none =>
    have h63 : ltr n = [63] := by
      refine ltr_no n ?_
      by_cases h0 : n = 0
      · exact .inl h0
      · by_cases h1 : 24 ≤ n
        · exact .inr h1
        · have : ∀ n < 24, 0 < n → formsL n ≠ none := by decide
          exact absurd hL (this n (by omega) (by omega))
    have hq1 : (S.toList == [63]) = true := by rw [hq]; exact decide_eq_true h63
    have hd := (d_none n a hL).symm.trans HM.out
    cases hd
    clear hq
    go_wp2_with (refine wpList_store_mid rfl 29 (.tmp 2) (.tmp 12) rfl (B + 1) 0 (ordA zO) rfl rfl HI.out.res.there (by kernel_rfl) (ord_one _) ?_; obtain ⟨ho2, hb2⟩ := FIN.out _ zO HI.out; generalize w2.setCells (B + 1) 0 (ordA zO).toList = w9 at ho2 hb2 ⊢)
    obtain ⟨z0, z1, z2, z3, z4, z5, z6, z7, z8, z9, z10, z11⟩ := ho2.cells
    refine bodyPost_ret (v := .tuple #[ordV zO, .int .i64 2]) (by simp [results, Try.results8, go_sem, ordA, z0, z1, z2, z3, z4, z5, z6, z7, z8, z9, z10, z11]) rfl ⟨rfl, by first | exact hb2 | exact hB ▸ hb2⟩
  | some L =>
    obtain ⟨l1, l2, l3⟩ := ltr_ok n L hL
    have hq1 : (S.toList == [63]) = false := by rw [hq]; exact decide_eq_false l2
    have hLN : L.length = N := l1.symm.trans HN.out
    have hN6 : N ≤ 6 := by have := fm_len n L hL; omega
    clear hq
    have HSN := Lib.hid hSN
    have L3 := Lib.hid l3
    have HLN := Lib.hid hLN
    clear l3 hLN l1 l2
    go_wp2_with (fail)
    go_loopw [5] (fun i wr => ∃ k : Nat, N ≤ k ∧ k ≤ 6 ∧ i = .int .i64 k ∧ Hid (RefI w wr B n a) ∧ ∀ j, N ≤ j → j < k → a j = 0) (fun i _ => 6 - (intOf i).toNat)
    case atStart => exact ⟨N, Nat.le_refl _, hN6, rfl, HI, fun j h1 h2 => by omega⟩
    case round =>
      clear HI
      obtain ⟨k, hkN, hk, rfl, HI, hz0⟩ := hrel
      have HZ0 := Lib.hid hz0
      clear hz0
      by_cases hlt : k < 6
      · have k0 : (0 : Int) ≤ k := by omega
        have k6 : (k : Int) < 6 := by omega
        have hcl : wr.cell? ⟨B, 1 + k, none⟩ = some (.int .u64 (a k)) := (row_cell HI.out.cal _).trans (callA_at n a k hlt)
        by_cases hak : a k = 0
        · rw [hak] at hcl
          go_wp2
          go_roundw
          case rel => exact ⟨k + 1, by omega, by omega, by go_num, HI, fun j h1 h2 => by
            by_cases h : j = k
            · rw [h, hak]
            · exact HZ0.out j h1 (by omega)⟩
          case measure => simp [intOf]; omega
        · have hd := (d_stop n a L hL k hlt (by have := HLN.out; omega) hak).symm.trans HM.out
          cases hd
          obtain ⟨v, hv⟩ : ∃ v, a k = v := ⟨_, rfl⟩
          rw [hv] at hcl hak
          have hb : (v == 0) = false := beq_eq_false_iff_ne.2 hak
          clear hv
          go_wp2_with (refine wpList_store_mid rfl 29 (.tmp 2) (.tmp 24) rfl (B + 1) 0 (ordA zO) rfl rfl HI.out.res.there (by kernel_rfl) (ord_one _) ?_; obtain ⟨ho2, hb2⟩ := FIN.out _ zO HI.out; generalize wr.setCells (B + 1) 0 (ordA zO).toList = w9 at ho2 hb2 ⊢)
          obtain ⟨z0, z1, z2, z3, z4, z5, z6, z7, z8, z9, z10, z11⟩ := ho2.cells
          refine bodyPost_ret (v := .tuple #[ordV zO, .int .i64 2]) (by simp [results, Try.results8, go_sem, ordA, z0, z1, z2, z3, z4, z5, z6, z7, z8, z9, z10, z11]) rfl ⟨rfl, by first | exact hb2 | exact hB ▸ hb2⟩
      · obtain rfl : k = 6 := by omega
        have hzl : ∀ i < 6, L.length ≤ i → a i = 0 := fun i h1 h2 => HZ0.out i (by have := HLN.out; omega) h1
        have HZL := Lib.hid hzl
        clear hzl
        by_cases hn1 : n = 1
        · subst hn1
          obtain ⟨x0, x1, x2, x3, x4, x5, x6⟩ := HI.out.cal.cells
          by_cases h1 : 100 < a 1
          · have hd := (d_fr a (fr_same a (HA.out 1 (by decide)) (HA.out 2 (by decide)) (.inl h1))).symm.trans HM.out
            cases hd
            go_upto_region 11 with fail
            go_wp2_with (refine wpList_store_mid rfl 29 (.tmp 2) (.tmp 50) rfl (B + 1) 0 (ordA zO) rfl rfl HI.out.res.there (by kernel_rfl) (ord_one _) ?_; obtain ⟨ho2, hb2⟩ := FIN.out _ zO HI.out; generalize wr.setCells (B + 1) 0 (ordA zO).toList = w9 at ho2 hb2 ⊢)
            obtain ⟨z0, z1, z2, z3, z4, z5, z6, z7, z8, z9, z10, z11⟩ := ho2.cells
            refine bodyPost_ret (v := .tuple #[ordV zO, .int .i64 2]) (by simp [results, Try.results8, go_sem, ordA, z0, z1, z2, z3, z4, z5, z6, z7, z8, z9, z10, z11]) rfl ⟨rfl, by first | exact hb2 | exact hB ▸ hb2⟩
          · by_cases h2 : 100 < a 2
            · have hd := (d_fr a (fr_same a (HA.out 1 (by decide)) (HA.out 2 (by decide)) (.inr h2))).symm.trans HM.out
              cases hd
              go_upto_region 11 with fail
              go_wp2_with (refine wpList_store_mid rfl 29 (.tmp 2) (.tmp 50) rfl (B + 1) 0 (ordA zO) rfl rfl HI.out.res.there (by kernel_rfl) (ord_one _) ?_; obtain ⟨ho2, hb2⟩ := FIN.out _ zO HI.out; generalize wr.setCells (B + 1) 0 (ordA zO).toList = w9 at ho2 hb2 ⊢)
              obtain ⟨z0, z1, z2, z3, z4, z5, z6, z7, z8, z9, z10, z11⟩ := ho2.cells
              refine bodyPost_ret (v := .tuple #[ordV zO, .int .i64 2]) (by simp [results, Try.results8, go_sem, ordA, z0, z1, z2, z3, z4, z5, z6, z7, z8, z9, z10, z11]) rfl ⟨rfl, by first | exact hb2 | exact hB ▸ hb2⟩
            · by_cases hfr : framesN (wrap64 (a 1)) (wrap64 (a 2)) = 0
              · have hd := (d_fr a hfr).symm.trans HM.out
                cases hd
                go_upto_region 11 with (go_at_call 19; refine (rframes_any _ _ _).mono ?_; rw [hfr]; rintro e w4 ⟨rfl, rfl⟩)
                go_wp2_with (refine wpList_store_mid rfl 29 (.tmp 2) (.tmp 50) rfl (B + 1) 0 (ordA zO) rfl rfl HI.out.res.there (by kernel_rfl) (ord_one _) ?_; obtain ⟨ho2, hb2⟩ := FIN.out _ zO HI.out; generalize wr.setCells (B + 1) 0 (ordA zO).toList = w9 at ho2 hb2 ⊢)
                obtain ⟨z0, z1, z2, z3, z4, z5, z6, z7, z8, z9, z10, z11⟩ := ho2.cells
                refine bodyPost_ret (v := .tuple #[ordV zO, .int .i64 2]) (by simp [results, Try.results8, go_sem, ordA, z0, z1, z2, z3, z4, z5, z6, z7, z8, z9, z10, z11]) rfl ⟨rfl, by first | exact hb2 | exact hB ▸ hb2⟩
              · have HNR := Lib.hid hfr
                obtain ⟨fr, hfe⟩ : ∃ x, framesN (wrap64 (a 1)) (wrap64 (a 2)) = x := ⟨_, rfl⟩
                rw [hfe] at hfr
                have hfb : (fr == 0) = false := beq_eq_false_iff_ne.2 hfr
                go_wp2_with (go_at_call 19; refine (rframes_any _ _ _).mono ?_; rw [hfe]; rintro e w4 ⟨rfl, rfl⟩)
                clear hfb hfr hfe x0 x1 x2 x3 x4 x5 x6 h1 h2
                go_loopw [6] (fun i wr => ∃ k : Nat, k ≤ N ∧ i = .int .i64 k ∧ Hid (RefI w wr B 1 a) ∧ ∀ j, j < k → okW L a j) (fun i _ => N - (intOf i).toNat)
                case atStart => exact ⟨0, by omega, rfl, HI, fun j hj => absurd hj (Nat.not_lt_zero j)⟩
                case round =>
                  clear HI
                  obtain ⟨k, hk, rfl, HJ, hok⟩ := hrel
                  by_cases hlt : k < N
                  · have hlt' : (k : Int) < N := by omega
                    have k0 : (0 : Int) ≤ k := by omega
                    have k6 : (k : Int) < 6 := by omega
                    have hk6 : k < 6 := by omega
                    have hcl : wr.cell? ⟨B, 1 + k, none⟩ = some (.int .u64 (a k)) := (row_cell HJ.out.cal _).trans (callA_at 1 a k hk6)
                    have hx := str_ix 1 k (by have := HN.out; omega)
                    rw [HS.out] at hx
                    have hff := L3.out k (by have := HLN.out; omega) (a k) (HA.out k hk6).1 (HA.out k hk6).2
                    obtain ⟨t, ht⟩ : ∃ t, (ltr 1).getD k 0 = t := ⟨_, rfl⟩
                    rw [ht] at hx hff
                    have HFF := Lib.hid hff
                    have HOK := Lib.hid hok
                    obtain ⟨v, hv⟩ : ∃ v, a k = v := ⟨_, rfl⟩
                    have HV := Lib.hid hv
                    rw [hv] at hcl
                    rw [hv] at HFF
                    clear hff hok ht hv
                    go_upto_region 15 with fail
                    by_cases hfit : fitB t v = true
                    · go_quiet ((go_at_call 20; exact Calls.quiet_of_same (same_q (by have h := fits_any t v; rw [hfit] at h; exact h _))))
                      go_wp2
                      go_roundw
                      case rel => exact ⟨k + 1, by omega, by go_num, Lib.hid (HJ.out.drewN _), fun j hj => by
                        by_cases h : j = k
                        · subst h
                          show ¬ _
                          rw [HV.out]
                          exact HFF.out.1 hfit
                        · exact HOK.out j (by omega)⟩
                      case measure => simp [intOf]; omega
                    · have hfit2 : fitB t v = false := by simpa using hfit
                      have hd := (d_bad 1 a L hL HZL.out (fun h => HNR.out h.2) k hk6 (fun h => hfit (HFF.out.2 (by rw [← HV.out]; exact h)))).symm.trans HM.out
                      cases hd
                      go_quiet ((go_at_call 20; exact Calls.quiet_of_same (same_q (by have h := fits_any t v; rw [hfit2] at h; exact h _))))
                      have HJ2 := Lib.hid (HJ.out.drewN nq)
                      generalize wr.drewN nq = wq at HJ2 ⊢
                      go_wp2_with (refine wpList_store_mid rfl 29 (.tmp 2) (.tmp 66) rfl (B + 1) 0 (ordA zO) rfl rfl HJ2.out.res.there (by kernel_rfl) (ord_one _) ?_; obtain ⟨ho2, hb2⟩ := FIN.out _ zO HJ2.out; generalize wq.setCells (B + 1) 0 (ordA zO).toList = w9 at ho2 hb2 ⊢)
                      obtain ⟨z0, z1, z2, z3, z4, z5, z6, z7, z8, z9, z10, z11⟩ := ho2.cells
                      refine bodyPost_ret (v := .tuple #[ordV zO, .int .i64 3]) (by simp [results, Try.results8, go_sem, ordA, z0, z1, z2, z3, z4, z5, z6, z7, z8, z9, z10, z11]) rfl ⟨rfl, by first | exact hb2 | exact hB ▸ hb2⟩
                  · obtain rfl : k = N := by omega
                    have hg : ∀ i < 6, okW L a i := fun i hi => by
                      by_cases h : i < k
                      · exact hok i h
                      · have hb := frm_big L i (by have := HLN.out; omega)
                        have hz := HZL.out i hi (by have := HLN.out; omega)
                        show ¬ _
                        rw [hb, hz]
                        decide
                    have hd := (d_good 1 a L hL HZL.out (fun h => HNR.out h.2) hg).symm.trans HM.out
                    cases hd
                    have hoc : ∀ w, Calls Try.prog 21 #[.agg (callA 1 a), .string S] w fun e w' => e = .returned (ordV (mkO (1 : Nat) L a)) ∧ Below w.heap.size w w' := by
                      intro w
                      have e : mkO ((1 : Nat) : Int) L a = oR a := (ret_same L a hL hg).symm
                      rw [e]
                      exact order_ret a S w
                    obtain ⟨om, hom⟩ : ∃ x, mkO (1 : Nat) L a = x := ⟨_, rfl⟩
                    rw [hom] at hoc
                    have HOC := Lib.hid hoc
                    have HOM := Lib.hid hom
                    clear hoc hok hg hom
                    go_wp2_with (first
                      | (refine wpList_load_mid rfl 25 (.tmp 1) rfl B 0 rfl (callA 1 a).toList _ (call_range HJ.out.cal) Try.underlying25 rfl (by kernel_rfl) ?_; rw [Array.toArray_toList])
                      | (go_at_call 21; refine (HOC.out _).mono ?_; rintro e w5 ⟨rfl, hb5⟩)
                      | (refine wpList_store_mid rfl 29 (.tmp 2) (.tmp 69) rfl (B + 1) 0 (ordA om) rfl rfl (HJ.out.res.call hb5).there (by kernel_rfl) (ord_one _) ?_; obtain ⟨ho2, hb2⟩ := FIN.out w5 om ⟨HJ.out.cal.call hb5, HJ.out.res.call hb5, bgo HJ.out.bel hb5⟩; generalize w5.setCells (B + 1) 0 (ordA om).toList = w9 at ho2 hb2 ⊢))
                    obtain ⟨z0, z1, z2, z3, z4, z5, z6, z7, z8, z9, z10, z11⟩ := ho2.cells
                    refine bodyPost_ret (v := .tuple #[ordV om, .int .i64 0]) (by simp [results, Try.results8, go_sem, ordA, z0, z1, z2, z3, z4, z5, z6, z7, z8, z9, z10, z11]) rfl ⟨by rw [HOM.out], by first | exact hb2 | exact hB ▸ hb2⟩

        · have HNF : Hid (¬ (n = 1 ∧ framesN (wrap64 (a 1)) (wrap64 (a 2)) = 0)) := Lib.hid (fun h => hn1 h.1)
          have hn1b : ((n : Int) == 1) = false := beq_eq_false_iff_ne.2 (by omega)
          have hc0' : wr.cell? ⟨B, 0, none⟩ = some (.int .u64 n) := row_cell HI.out.cal 0
          go_wp2_with (fail)
          go_loopw [6] (fun i wr => ∃ k : Nat, k ≤ N ∧ i = .int .i64 k ∧ Hid (RefI w wr B n a) ∧ ∀ j, j < k → okW L a j) (fun i _ => N - (intOf i).toNat)
          case atStart => exact ⟨0, by omega, rfl, HI, fun j hj => absurd hj (Nat.not_lt_zero j)⟩
          case round =>
            clear HI
            obtain ⟨k, hk, rfl, HJ, hok⟩ := hrel
            by_cases hlt : k < N
            · have hlt' : (k : Int) < N := by omega
              have k0 : (0 : Int) ≤ k := by omega
              have k6 : (k : Int) < 6 := by omega
              have hk6 : k < 6 := by omega
              have hcl : wr.cell? ⟨B, 1 + k, none⟩ = some (.int .u64 (a k)) := (row_cell HJ.out.cal _).trans (callA_at n a k hk6)
              have hx := str_ix n k (by have := HN.out; omega)
              rw [HS.out] at hx
              have hff := L3.out k (by have := HLN.out; omega) (a k) (HA.out k hk6).1 (HA.out k hk6).2
              obtain ⟨t, ht⟩ : ∃ t, (ltr n).getD k 0 = t := ⟨_, rfl⟩
              rw [ht] at hx hff
              have HFF := Lib.hid hff
              have HOK := Lib.hid hok
              obtain ⟨v, hv⟩ : ∃ v, a k = v := ⟨_, rfl⟩
              have HV := Lib.hid hv
              rw [hv] at hcl
              rw [hv] at HFF
              clear hff hok ht hv
              go_upto_region 15 with fail
              by_cases hfit : fitB t v = true
              · go_quiet ((go_at_call 20; exact Calls.quiet_of_same (same_q (by have h := fits_any t v; rw [hfit] at h; exact h _))))
                go_wp2
                go_roundw
                case rel => exact ⟨k + 1, by omega, by go_num, Lib.hid (HJ.out.drewN _), fun j hj => by
                  by_cases h : j = k
                  · subst h
                    show ¬ _
                    rw [HV.out]
                    exact HFF.out.1 hfit
                  · exact HOK.out j (by omega)⟩
                case measure => simp [intOf]; omega
              · have hfit2 : fitB t v = false := by simpa using hfit
                have hd := (d_bad n a L hL HZL.out HNF.out k hk6 (fun h => hfit (HFF.out.2 (by rw [← HV.out]; exact h)))).symm.trans HM.out
                cases hd
                go_quiet ((go_at_call 20; exact Calls.quiet_of_same (same_q (by have h := fits_any t v; rw [hfit2] at h; exact h _))))
                have HJ2 := Lib.hid (HJ.out.drewN nq)
                generalize wr.drewN nq = wq at HJ2 ⊢
                go_wp2_with (refine wpList_store_mid rfl 29 (.tmp 2) (.tmp 66) rfl (B + 1) 0 (ordA zO) rfl rfl HJ2.out.res.there (by kernel_rfl) (ord_one _) ?_; obtain ⟨ho2, hb2⟩ := FIN.out _ zO HJ2.out; generalize wq.setCells (B + 1) 0 (ordA zO).toList = w9 at ho2 hb2 ⊢)
                obtain ⟨z0, z1, z2, z3, z4, z5, z6, z7, z8, z9, z10, z11⟩ := ho2.cells
                refine bodyPost_ret (v := .tuple #[ordV zO, .int .i64 3]) (by simp [results, Try.results8, go_sem, ordA, z0, z1, z2, z3, z4, z5, z6, z7, z8, z9, z10, z11]) rfl ⟨rfl, by first | exact hb2 | exact hB ▸ hb2⟩
            · obtain rfl : k = N := by omega
              have hg : ∀ i < 6, okW L a i := fun i hi => by
                by_cases h : i < k
                · exact hok i h
                · have hb := frm_big L i (by have := HLN.out; omega)
                  have hz := HZL.out i hi (by have := HLN.out; omega)
                  show ¬ _
                  rw [hb, hz]
                  decide
              have hd := (d_good n a L hL HZL.out HNF.out hg).symm.trans HM.out
              cases hd
              have hoc : ∀ w, Calls Try.prog 21 #[.agg (callA n a), .string S] w fun e w' => e = .returned (ordV (mkO n L a)) ∧ Below w.heap.size w w' := by
                intro w
                obtain ⟨s1, s2⟩ := ord_same n L a hL hn1
                rw [← s1, HN.out]
                exact order_any n a S k (fun k => (ltr n).getD k 0) (m4L (ltr n)) hn1 HSN.out hN6 (fun j hj w => by have h := str_ix n j (by rw [HN.out]; exact hj) w; rw [HS.out] at h; exact h) (fun j hj => s2 j (by rw [HN.out]; exact hj)) (fun h => by unfold m4L at h; rw [HN.out] at h; simp at h; exact h.1) (fun h => by have h4 := str_m4 n (by rw [HN.out]; exact h); rw [HS.out, HN.out] at h4; exact h4) w
              obtain ⟨om, hom⟩ : ∃ x, mkO n L a = x := ⟨_, rfl⟩
              rw [hom] at hoc
              have HOC := Lib.hid hoc
              have HOM := Lib.hid hom
              clear hoc hok hg hom
              go_wp2_with (first
                | (refine wpList_load_mid rfl 25 (.tmp 1) rfl B 0 rfl (callA n a).toList _ (call_range HJ.out.cal) Try.underlying25 rfl (by kernel_rfl) ?_; rw [Array.toArray_toList])
                | (go_at_call 21; refine (HOC.out _).mono ?_; rintro e w5 ⟨rfl, hb5⟩)
                | (refine wpList_store_mid rfl 29 (.tmp 2) (.tmp 69) rfl (B + 1) 0 (ordA om) rfl rfl (HJ.out.res.call hb5).there (by kernel_rfl) (ord_one _) ?_; obtain ⟨ho2, hb2⟩ := FIN.out w5 om ⟨HJ.out.cal.call hb5, HJ.out.res.call hb5, bgo HJ.out.bel hb5⟩; generalize w5.setCells (B + 1) 0 (ordA om).toList = w9 at ho2 hb2 ⊢))
              obtain ⟨z0, z1, z2, z3, z4, z5, z6, z7, z8, z9, z10, z11⟩ := ho2.cells
              refine bodyPost_ret (v := .tuple #[ordV om, .int .i64 0]) (by simp [results, Try.results8, go_sem, ordA, z0, z1, z2, z3, z4, z5, z6, z7, z8, z9, z10, z11]) rfl ⟨by rw [HOM.out], by first | exact hb2 | exact hB ▸ hb2⟩
end Go.Proofs.Ytahagcghbeeajaa
