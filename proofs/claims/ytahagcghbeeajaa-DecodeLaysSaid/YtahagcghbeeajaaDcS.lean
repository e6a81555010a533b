/- Chapter 28's own Encode. -/
import Derived.Test.YtahagcghbeeajaaDcR
namespace Go.Proofs.Ytahagcghbeeajaa
set_option linter.unusedVariables false
set_option linter.unusedSimpArgs false
open Go.ChangeShapes Go.WideShapes Go.ChangeAt Go.RowKit Go.Shelf
attribute [-go_sem] run_index_string

structure EncA (w wr : World) (B : Nat) (o : Nat → Int) : Prop where
  ord : OrdAt wr B o
  res : CallAt wr (B + 1) 0 zW
  bel : Below w.heap.size w wr
structure EncJ (w wr : World) (B : Nat) (n : Int) (o b : Nat → Int) : Prop where
  ord : OrdAt wr B o
  res : CallAt wr (B + 1) 0 zW
  cal : CallAt wr (B + 2) n b
  bel : Below w.heap.size w wr
theorem encA_new (w : World) (o : Nat → Int) (B : Nat) (hB : w.heap.size = B) : EncA w ((w.alloc (.cells (ordA o) 29)).alloc (.cells #[.int .u64 0, .int .u64 0, .int .u64 0, .int .u64 0, .int .u64 0, .int .u64 0, .int .u64 0] 25)) B o := by
  subst hB
  have e1 := World.size_alloc w (.cells (ordA o) 29)
  have n1 : CallAt ((w.alloc (.cells (ordA o) 29)).alloc (.cells #[.int .u64 0, .int .u64 0, .int .u64 0, .int .u64 0, .int .u64 0, .int .u64 0, .int .u64 0] 25)) _ 0 zW := World.alloc_heap_new (w.alloc (.cells (ordA o) 29)) (.cells #[.int .u64 0, .int .u64 0, .int .u64 0, .int .u64 0, .int .u64 0, .int .u64 0, .int .u64 0] 25)
  rw [e1] at n1
  exact ⟨alloc_old (ord_new w o) (by rw [e1]; omega), n1, bal (bal (Below.refl _ _) _) _⟩
theorem encJ_new (w wr : World) (B : Nat) (o : Nat → Int) (n : Nat) (h : EncA w wr B o) (hs : wr.heap.size = B + 2) : EncJ w (wr.alloc (.cells #[.int .u64 n, .int .u64 0, .int .u64 0, .int .u64 0, .int .u64 0, .int .u64 0, .int .u64 0] 25)) B n o zW := by
  have n1 : CallAt (wr.alloc (.cells #[.int .u64 n, .int .u64 0, .int .u64 0, .int .u64 0, .int .u64 0, .int .u64 0, .int .u64 0] 25)) _ n zW := World.alloc_heap_new wr _
  rw [hs] at n1
  exact ⟨alloc_old h.ord (by omega), alloc_old h.res (by omega), n1, h.bel.alloc h.bel.size _⟩
theorem EncJ.step {w wr : World} {B : Nat} {n : Int} {o b : Nat → Int} (h : EncJ w wr B n o b) (k : Nat) (hk : k < 6) (v : Int) (hB : w.heap.size ≤ B) : EncJ w (wr.setCell ⟨B + 2, 1 + k, none⟩ (.int .u64 v)) B n o (up b k v) :=
  have hon : OneOnly (B + 2) wr (wr.setCell ⟨B + 2, 1 + k, none⟩ (.int .u64 v)) := OneOnly.refl.set _ _
  ⟨(hon.block B h.ord.lt (by omega)).trans h.ord, (hon.block (B + 1) (Array.getElem?_eq_some_iff.1 h.res).1 (by omega)).trans h.res, h.cal.set _ _ (callA_set n b k hk v), h.bel.trans (hon.below (by omega) h.bel.size)⟩
set_option maxRecDepth 100000 in
set_option maxHeartbeats 8000000 in
theorem refenc_any (o : Nat → Int) (ho : OkO o) (w : World) :
    Calls Try.prog 12 #[.agg (ordA o)] w fun e w' => e = .returned (.tuple #[.agg (callA (encM o).1.1 (encM o).1.2), .int .i64 (encM o).2]) ∧ Below w.heap.size w w' := by
  have HO := Lib.hid ho
  have hzc : ∀ w, (zeroValue 25).run Try.prog w = .ok (.agg #[.int .u64 0, .int .u64 0, .int .u64 0, .int .u64 0, .int .u64 0, .int .u64 0, .int .u64 0]) w := zeroCall
  have hoa : (ordA o)[0]? = some (.int .i64 (o 0)) := rfl
  go_enter Try.func12, Try.ntmps12
  go_upto_region 1 with fail
  obtain ⟨B, hB⟩ : ∃ B, w.heap.size = B := ⟨_, rfl⟩
  have hI := encA_new w o B hB
  have hs2 : ((w.alloc (.cells (ordA o) 29)).alloc (.cells #[.int .u64 0, .int .u64 0, .int .u64 0, .int .u64 0, .int .u64 0, .int .u64 0, .int .u64 0] 25)).heap.size = B + 2 := by rw [World.size_alloc, World.size_alloc, hB]
  generalize ((w.alloc (.cells (ordA o) 29)).alloc (.cells #[.int .u64 0, .int .u64 0, .int .u64 0, .int .u64 0, .int .u64 0, .int .u64 0, .int .u64 0] 25)) = w2 at hI hs2 ⊢
  rw [hB]
  have HI := Lib.hid hI
  have fin : ∀ (wr : World) (m : Int) (a : Nat → Int), CallAt wr (B + 1) 0 zW → Below w.heap.size w wr → CallAt (wr.setCells (B + 1) 0 (callA m a).toList) (B + 1) m a ∧ Below w.heap.size w (wr.setCells (B + 1) 0 (callA m a).toList) := fun wr m a h hb => by
    obtain ⟨h1, h2⟩ := call_put (n := m) a h
    exact ⟨h1, hb.trans (h2.below (by omega) hb.size)⟩
  have FIN := Lib.hid fin
  obtain ⟨c0, c1, c2, c3, c4, c5, c6, c7, c8, c9, c10, c11⟩ := hI.ord.cells
  clear fin hI ho
  by_cases hneg : o 0 < 0
  · have HE5 := Lib.hid (enc_neg o HO.out hneg)
    go_upto_region 2 with fail
    go_wp2_with (refine wpList_store_mid rfl 25 (.tmp 2) (.tmp 14) rfl (B + 1) 0 (callA 0 zW) rfl rfl HI.out.res.there (by kernel_rfl) (call_one _ _) ?_; obtain ⟨hc7, hb7⟩ := FIN.out w2 0 zW HI.out.res HI.out.bel; generalize w2.setCells (B + 1) 0 (callA 0 zW).toList = w7 at hc7 hb7 ⊢)
    obtain ⟨z0, z1, z2, z3, z4, z5, z6⟩ := hc7.cells
    refine bodyPost_ret (v := .tuple #[.agg (callA 0 zW), .int .i64 5]) (by simp [results, Try.results12, go_sem, callA, z0, z1, z2, z3, z4, z5, z6]) rfl ⟨by rw [HE5.out], by first | exact hb7 | exact hB ▸ hb7⟩
  · have hpos : 0 ≤ o 0 := by omega
    have hnn := opN_pos o HO.out hpos
    have hw0 : IntKind.u64.wrap (o 0) = o 0 := by rw [IntKind.wrap_u64]; have := (HO.out.i 0 (by decide)).2; omega
    obtain ⟨n, hn⟩ : ∃ n, opN o = n := ⟨_, rfl⟩
    rw [hn] at hnn
    rw [← hnn] at c0 hw0 hneg hoa
    obtain ⟨S, hS⟩ : ∃ S, strO (ltr n) = S := ⟨_, rfl⟩
    obtain ⟨N, hN⟩ : ∃ N, (ltr n).length = N := ⟨_, rfl⟩
    have hSN : S.size = N := by rw [← hS, str_len, hN]
    have hq := str_q n
    rw [hS] at hq
    have hfm := form_any n
    rw [hS] at hfm
    have HFM := Lib.hid hfm
    have HS := Lib.hid hS
    have HN := Lib.hid hN
    have HNN := Lib.hid hn
    have HN0 : Hid (o 0 = n) := Lib.hid hnn.symm
    clear hfm hS hN hn hnn hpos
    cases hL : formsL n with
    | none =>
      have h63 : ltr n = [63] := by
        refine ltr_no n ?_
        by_cases h0 : n = 0
        · exact .inl h0
        · by_cases h1 : 24 ≤ n
          · exact .inr h1
          · have : ∀ n < 24, 0 < n → formsL n ≠ none := by decide
            exact absurd hL (this n (by omega) (by omega))
      have hq1 : (S.toList == [63]) = true := by rw [hq]; exact decide_eq_true h63
      have HE5 := Lib.hid (enc_none o (by rw [HNN.out]; exact hL))
      clear hq
      go_upto_region 5 with (go_at_call 18; refine (HFM.out _).mono ?_; rintro e w1 ⟨rfl, rfl⟩)
      go_wp2_with (refine wpList_store_mid rfl 25 (.tmp 2) (.tmp 21) rfl (B + 1) 0 (callA 0 zW) rfl rfl HI.out.res.there (by kernel_rfl) (call_one _ _) ?_; obtain ⟨hc7, hb7⟩ := FIN.out w2 0 zW HI.out.res HI.out.bel; generalize w2.setCells (B + 1) 0 (callA 0 zW).toList = w7 at hc7 hb7 ⊢)
      obtain ⟨z0, z1, z2, z3, z4, z5, z6⟩ := hc7.cells
      refine bodyPost_ret (v := .tuple #[.agg (callA 0 zW), .int .i64 5]) (by simp [results, Try.results12, go_sem, callA, z0, z1, z2, z3, z4, z5, z6]) rfl ⟨by rw [HE5.out], by first | exact hb7 | exact hB ▸ hb7⟩
    | some L =>
      obtain ⟨l1, l2, l3⟩ := ltr_ok n L hL
      have hq1 : (S.toList == [63]) = false := by rw [hq]; exact decide_eq_false l2
      have hLN : L.length = N := l1.symm.trans HN.out
      have hN6 : N ≤ 6 := by have := fm_len n L hL; omega
      have HLN := Lib.hid hLN
      have HSN := Lib.hid hSN
      clear hq l1 l2 l3 hLN
      go_upto_region 7 with (go_at_call 18; refine (HFM.out _).mono ?_; rintro e w1 ⟨rfl, rfl⟩)
      have hj := encJ_new w w2 B o n HI.out hs2
      generalize w2.alloc (.cells #[.int .u64 n, .int .u64 0, .int .u64 0, .int .u64 0, .int .u64 0, .int .u64 0, .int .u64 0] 25) = w3 at hj ⊢
      have HJ0 := Lib.hid hj
      clear c0 c1 c2 c3 c4 c5 c6 c7 c8 c9 c10 c11 hs2 HI
      by_cases hn1 : n = 1
      · have hn1b : ((n : Int) == 1) = true := by rw [hn1]; rfl
        obtain ⟨c0', c1, c2, c3, c4, c5, c6, c7, c8, c9, c10, c11⟩ := hj.ord.cells
        have c0 : w3.cell? ⟨B, 0, none⟩ = some (.int .i64 n) := by rw [c0', HN0.out]
        clear c0'
        by_cases h6 : o 6 < 0
        · have HE5 := Lib.hid (enc_ret_neg o HO.out (by rw [HNN.out, hn1]) h6)
          clear hj
          go_upto_region 9 with fail
          go_wp2_with (refine wpList_store_mid rfl 25 (.tmp 2) (.tmp 33) rfl (B + 1) 0 (callA 0 zW) rfl rfl HJ0.out.res.there (by kernel_rfl) (call_one _ _) ?_; obtain ⟨hc7, hb7⟩ := FIN.out w3 0 zW HJ0.out.res HJ0.out.bel; generalize w3.setCells (B + 1) 0 (callA 0 zW).toList = w7 at hc7 hb7 ⊢)
          obtain ⟨z0, z1, z2, z3, z4, z5, z6⟩ := hc7.cells
          refine bodyPost_ret (v := .tuple #[.agg (callA 0 zW), .int .i64 5]) (by simp [results, Try.results12, go_sem, callA, z0, z1, z2, z3, z4, z5, z6]) rfl ⟨by rw [HE5.out], by first | exact hb7 | exact hB ▸ hb7⟩
        · obtain ⟨x0, x1, x2, x3, x4, x5, x6⟩ := hj.cal.cells
          have hfz := fun j => frozen_of_row w3 (B + 2) j _ _ hj.cal
          clear hj
          go_upto_region 26 with fail
          have h60 : 0 ≤ o 6 := by omega
          have hj6 : EncJ w ((((((w3.setCell ⟨B + 2, 1, none⟩ (.int .u64 (IntKind.u64.wrap (o 1)))).setCell ⟨B + 2, 2, none⟩ (.int .u64 (IntKind.u64.wrap (o 4)))).setCell ⟨B + 2, 3, none⟩ (.int .u64 (IntKind.u64.wrap (o 5)))).setCell ⟨B + 2, 4, none⟩ (.int .u64 (IntKind.u64.wrap (o 2)))).setCell ⟨B + 2, 5, none⟩ (.int .u64 (o 6 % 16))).setCell ⟨B + 2, 6, none⟩ (.int .u64 (IntKind.u64.wrap (wrap64 ((o 6).tdiv 16))))) B n o (up (up (up (up (up (up zW 0 (IntKind.u64.wrap (o 1))) 1 (IntKind.u64.wrap (o 4))) 2 (IntKind.u64.wrap (o 5))) 3 (IntKind.u64.wrap (o 2))) 4 (o 6 % 16)) 5 (IntKind.u64.wrap (wrap64 ((o 6).tdiv 16)))) := ((((((((((((HJ0.out).step 0 (by decide) (IntKind.u64.wrap (o 1)) (by omega))).step 1 (by decide) (IntKind.u64.wrap (o 4)) (by omega))).step 2 (by decide) (IntKind.u64.wrap (o 5)) (by omega))).step 3 (by decide) (IntKind.u64.wrap (o 2)) (by omega))).step 4 (by decide) (o 6 % 16) (by omega))).step 5 (by decide) (IntKind.u64.wrap (wrap64 ((o 6).tdiv 16))) (by omega))
          generalize ((((((w3.setCell ⟨B + 2, 1, none⟩ (.int .u64 (IntKind.u64.wrap (o 1)))).setCell ⟨B + 2, 2, none⟩ (.int .u64 (IntKind.u64.wrap (o 4)))).setCell ⟨B + 2, 3, none⟩ (.int .u64 (IntKind.u64.wrap (o 5)))).setCell ⟨B + 2, 4, none⟩ (.int .u64 (IntKind.u64.wrap (o 2)))).setCell ⟨B + 2, 5, none⟩ (.int .u64 (o 6 % 16))).setCell ⟨B + 2, 6, none⟩ (.int .u64 (IntKind.u64.wrap (wrap64 ((o 6).tdiv 16))))) = wr at hj6 ⊢
          have hbw : ∀ i < 6, (up (up (up (up (up (up zW 0 (IntKind.u64.wrap (o 1))) 1 (IntKind.u64.wrap (o 4))) 2 (IntKind.u64.wrap (o 5))) 3 (IntKind.u64.wrap (o 2))) 4 (o 6 % 16)) 5 (IntKind.u64.wrap (wrap64 ((o 6).tdiv 16)))) i = wordsO o i := fun i hi => by
            have e : formL n = L := by unfold formL; rw [hL]; rfl
            have h := ret_words L o HO.out (hn1 ▸ hL) h60 i hi
            unfold wordsO
            rw [HNN.out, e, ← h]
            have hw := (HO.out.i 6 (by decide))
            obtain rfl | rfl | rfl | rfl | rfl | rfl : i = 0 ∨ i = 1 ∨ i = 2 ∨ i = 3 ∨ i = 4 ∨ i = 5 := by omega
            · simp [up, retA]
            · simp [up, retA]
            · simp [up, retA]
            · simp [up, retA]
            · have e4 : IntKind.u64.wrap ((o 6).tmod 16) = o 6 % 16 := by rw [Int.tmod_eq_emod_of_nonneg h60, IntKind.wrap_u64]; omega
              simp [up, retA, e4]
            · have e5 : IntKind.u64.wrap (wrap64 ((o 6).tdiv 16)) = IntKind.u64.wrap ((o 6).tdiv 16) := by
                generalize (o 6).tdiv 16 = q
                rw [IntKind.wrap_u64, IntKind.wrap_u64]
                unfold wrap64
                omega
              simp [up, retA, e5]
          have HBW := Lib.hid hbw
          have HJ := Lib.hid hj6
          clear hbw hj6 hn1b h6 h60 hfz c0 c1 c2 c3 c4 c5 c6 c7 c8 c9 c10 c11 x0 x1 x2 x3 x4 x5 x6 HJ0
          clear hn1
          have hcw : CallAt wr (B + 2) n (wordsO o) := by
            have := HJ.out.cal
            unfold CallAt at this ⊢
            rw [← callA_congr n _ (wordsO o) HBW.out]
            exact this
          obtain ⟨⟨p, cd⟩, hm⟩ : ∃ z, decM n (wordsO o) = z := ⟨_, rfl⟩
          have hrd := fun w => refdec_any n (wordsO o) (words_in_range o HO.out) w
          rw [hm] at hrd
          have HRD := Lib.hid hrd
          have HEM2 : Hid (encM o = if cd = 0 ∧ eqB p o = true then (((((n : Nat) : Int), wordsO o), (0 : Int)) : (Int × (Nat → Int)) × Int) else ((0, zW), 5)) := Lib.hid (by
            unfold encM
            rw [HNN.out, hm])
          have HCW := Lib.hid hcw
          have hz := zeroOrd
          clear hrd hcw hm
          go_upto_region 27 with (first
            | (refine wpList_load_mid rfl 25 (.tmp 5) rfl (B + 2) 0 rfl (callA n (wordsO o)).toList _ (call_range HCW.out) Try.underlying25 rfl (by kernel_rfl) ?_; rw [Array.toArray_toList])
            | (go_at_call 8; refine (HRD.out _).mono ?_; rintro e w5 ⟨rfl, hb5⟩)
            | (refine wpList_store_mid rfl 29 (.tmp 9) (.tmp 138) rfl w5.heap.size 0 (ordA p) rfl rfl (ord_new w5 zO).there (by kernel_rfl) (ord_one p) ?_; obtain ⟨ho6, hb6⟩ := box_ord w5 p; generalize (w5.alloc (.cells (ordA zO) 29)).setCells w5.heap.size 0 (ordA p).toList = w6 at ho6 hb6 ⊢))
          have hb66 : Below wr.heap.size wr w6 := bgo hb5 hb6
          have o6 := HJ.out.ord.call hb66
          have r6 := HJ.out.res.call hb66
          have c6' := HCW.out.call hb66
          have b6 := bgo HJ.out.bel hb66
          have HR6 := Lib.hid r6
          have HC6 := Lib.hid c6'
          have HB6 := Lib.hid b6
          obtain ⟨x0, x1, x2, x3, x4, x5, x6, x7, x8, x9, x10, x11⟩ := ho6.cells
          obtain ⟨y0, y1, y2, y3, y4, y5, y6, y7, y8, y9, y10, y11⟩ := o6.cells
          clear hb66 hb5 hb6 o6 r6 c6' b6 ho6
          by_cases hc : cd = 0
          · subst hc
            by_cases he : eqB p o = true
            · have hem2 := HEM2.out
              rw [if_pos ⟨rfl, he⟩] at hem2
              have HE5 := Lib.hid hem2
              have hq := neO p o
              rw [he] at hq
              clear hem2 hz
              go_wp2_with (first
                | (refine wpList_load_mid rfl 25 (.tmp 5) rfl (B + 2) 0 rfl (callA n (wordsO o)).toList _ (call_range HC6.out) Try.underlying25 rfl (by kernel_rfl) ?_; rw [Array.toArray_toList])
                | (refine wpList_store_mid rfl 25 (.tmp 2) (.tmp 148) rfl (B + 1) 0 (callA n (wordsO o)) rfl rfl HR6.out.there (by kernel_rfl) (call_one _ _) ?_; obtain ⟨hc7, hb7⟩ := FIN.out w6 n (wordsO o) HR6.out HB6.out; generalize w6.setCells (B + 1) 0 (callA n (wordsO o)).toList = w7 at hc7 hb7 ⊢))
              obtain ⟨z0, z1, z2, z3, z4, z5, z6⟩ := hc7.cells
              refine bodyPost_ret (v := .tuple #[.agg (callA n (wordsO o)), .int .i64 0]) (by simp [results, Try.results12, go_sem, callA, z0, z1, z2, z3, z4, z5, z6]) rfl ⟨by rw [HE5.out]; try rfl, by first | exact hb7 | exact hB ▸ hb7⟩
            · have hem2 := HEM2.out
              rw [if_neg (fun h => he h.2)] at hem2
              have HE5 := Lib.hid hem2
              have hq := neO p o
              rw [(by simpa using he : eqB p o = false)] at hq
              clear hem2 hz
              go_wp2_with (refine wpList_store_mid rfl 25 (.tmp 2) (.tmp 147) rfl (B + 1) 0 (callA 0 zW) rfl rfl HR6.out.there (by kernel_rfl) (call_one _ _) ?_; obtain ⟨hc7, hb7⟩ := FIN.out w6 0 zW HR6.out HB6.out; generalize w6.setCells (B + 1) 0 (callA 0 zW).toList = w7 at hc7 hb7 ⊢)
              obtain ⟨z0, z1, z2, z3, z4, z5, z6⟩ := hc7.cells
              refine bodyPost_ret (v := .tuple #[.agg (callA 0 zW), .int .i64 5]) (by simp [results, Try.results12, go_sem, callA, z0, z1, z2, z3, z4, z5, z6]) rfl ⟨by rw [HE5.out], by first | exact hb7 | exact hB ▸ hb7⟩

          · have hem2 := HEM2.out
            rw [if_neg (fun h => hc h.1)] at hem2
            have HE5 := Lib.hid hem2
            have hcb : (cd != 0) = true := bne_iff_ne.2 hc
            have hcb2 : (cd == 0) = false := beq_eq_false_iff_ne.2 hc
            clear hem2 hz
            go_wp2_with (refine wpList_store_mid rfl 25 (.tmp 2) (.tmp 147) rfl (B + 1) 0 (callA 0 zW) rfl rfl HR6.out.there (by kernel_rfl) (call_one _ _) ?_; obtain ⟨hc7, hb7⟩ := FIN.out w6 0 zW HR6.out HB6.out; generalize w6.setCells (B + 1) 0 (callA 0 zW).toList = w7 at hc7 hb7 ⊢)
            obtain ⟨z0, z1, z2, z3, z4, z5, z6⟩ := hc7.cells
            refine bodyPost_ret (v := .tuple #[.agg (callA 0 zW), .int .i64 5]) (by simp [results, Try.results12, go_sem, callA, z0, z1, z2, z3, z4, z5, z6]) rfl ⟨by rw [HE5.out], by first | exact hb7 | exact hB ▸ hb7⟩


      · have hn1b : ((n : Int) == 1) = false := beq_eq_false_iff_ne.2 (by omega)
        have c0 : w3.cell? ⟨B, 0, none⟩ = some (.int .i64 n) := by have h := hj.ord.cells.1; rw [h, HN0.out]
        clear hj
        obtain ⟨e1, e2⟩ := enc_same n L o hL hn1
        have HE1 := Lib.hid e1
        have HE2 := Lib.hid e2
        have hs4 := fun h => str_m4 n h
        rw [HS.out, HN.out] at hs4
        have HS4 := Lib.hid hs4
        have h4 : m4L (ltr n) = true → 4 ≤ N := fun h => by unfold m4L at h; rw [HN.out] at h; simp at h; exact h.1
        have H4 := Lib.hid h4
        clear e1 e2 hs4 h4
        go_upto_region 11 with fail
        go_wp2_with (fail)
        go_loopw [6, 7, 8] (fun f m i wr => ∃ k : Nat, k ≤ N ∧ f = .bool (encS (fun k => (ltr n).getD k 0) (m4L (ltr n)) o k).2.1 ∧ m = .int .i64 ((encS (fun k => (ltr n).getD k 0) (m4L (ltr n)) o k).2.2 : Nat) ∧ i = .int .i64 k ∧ Hid (EncJ w wr B n o (encS (fun k => (ltr n).getD k 0) (m4L (ltr n)) o k).1)) (fun _ _ i _ => N - (intOf i).toNat)
        case atStart => exact ⟨0, by omega, rfl, rfl, rfl, HJ0⟩
        case round =>
          clear HJ0
          obtain ⟨k, hk, rfl, rfl, rfl, HJ⟩ := hrel
          by_cases hlt : k < N
          · have hlt' : (k : Int) < N := by omega
            have k0 : (0 : Int) ≤ k := by omega
            have k6 : (k : Int) < 6 := by omega
            have hk6 : k < 6 := by omega
            have hx := str_ix n k (by have := HN.out; omega)
            rw [HS.out] at hx
            have hst : encS (fun k => (ltr n).getD k 0) (m4L (ltr n)) o (k + 1) = (if (ltr n).getD k 0 = 97 then (if (encS (fun k => (ltr n).getD k 0) (m4L (ltr n)) o k).2.1 = true then (up (encS (fun k => (ltr n).getD k 0) (m4L (ltr n)) o k).1 k (IntKind.u64.wrap (o 1)), false, (encS (fun k => (ltr n).getD k 0) (m4L (ltr n)) o k).2.2) else (up (encS (fun k => (ltr n).getD k 0) (m4L (ltr n)) o k).1 k (IntKind.u64.wrap (o 2)), (encS (fun k => (ltr n).getD k 0) (m4L (ltr n)) o k).2.1, (encS (fun k => (ltr n).getD k 0) (m4L (ltr n)) o k).2.2))
            else if (ltr n).getD k 0 = 119 then (if m4L (ltr n) = true then (up (encS (fun k => (ltr n).getD k 0) (m4L (ltr n)) o k).1 k (o (8 + (encS (fun k => (ltr n).getD k 0) (m4L (ltr n)) o k).2.2)), (encS (fun k => (ltr n).getD k 0) (m4L (ltr n)) o k).2.1, (encS (fun k => (ltr n).getD k 0) (m4L (ltr n)) o k).2.2 + 1) else (up (encS (fun k => (ltr n).getD k 0) (m4L (ltr n)) o k).1 k (o 7), (encS (fun k => (ltr n).getD k 0) (m4L (ltr n)) o k).2.1, (encS (fun k => (ltr n).getD k 0) (m4L (ltr n)) o k).2.2))
            else (up (encS (fun k => (ltr n).getD k 0) (m4L (ltr n)) o k).1 k (IntKind.u64.wrap (o 4)), (encS (fun k => (ltr n).getD k 0) (m4L (ltr n)) o k).2.1, (encS (fun k => (ltr n).getD k 0) (m4L (ltr n)) o k).2.2)) := rfl
            have hmk := HE2.out k (by have := HN.out; omega)
            have hh := HJ.out
            obtain ⟨⟨b, f, m⟩, hr⟩ : ∃ z, encS (fun k => (ltr n).getD k 0) (m4L (ltr n)) o k = z := ⟨_, rfl⟩
            rw [hr] at hst hmk hh ⊢
            simp only at hst hmk hh ⊢
            obtain ⟨t, ht⟩ : ∃ t, (ltr n).getD k 0 = t := ⟨_, rfl⟩
            rw [ht] at hx hst hmk
            have HH := Lib.hid hh
            have HST := Lib.hid hst
            have HMK := Lib.hid hmk
            obtain ⟨c0, c1, c2, c3, c4, c5, c6, c7, c8, c9, c10, c11⟩ := hh.ord.cells
            have hcl : wr.cell? ⟨B + 2, 1 + k, none⟩ = some (.int .u64 (b k)) := (row_cell hh.cal _).trans (callA_at n b k hk6)
            have hfz := fun j => frozen_of_row wr (B + 2) j _ _ hh.cal
            clear hr HJ hst hmk ht hh
            have fin : ∀ (f' : Bool) (m' : Nat) (b' : Nat → Int) (W' : World), EncJ w W' B n o b' → encS (fun k => (ltr n).getD k 0) (m4L (ltr n)) o (k + 1) = (b', f', m') → ∃ k1 : Nat, k1 ≤ N ∧ Value.bool f' = .bool (encS (fun k => (ltr n).getD k 0) (m4L (ltr n)) o k1).2.1 ∧ Value.int .i64 (m' : Nat) = .int .i64 ((encS (fun k => (ltr n).getD k 0) (m4L (ltr n)) o k1).2.2 : Nat) ∧ Value.int .i64 ((k : Int) + 1) = .int .i64 k1 ∧ Hid (EncJ w W' B n o (encS (fun k => (ltr n).getD k 0) (m4L (ltr n)) o k1).1) := fun f' m' b' W' h e => ⟨k + 1, by omega, by rw [e], by rw [e], by go_num, Lib.hid (by rw [e]; exact h)⟩
            have FIN2 := Lib.hid fin
            clear fin
            by_cases h97 : t = 97
            · subst h97
              cases f
              · go_wp2
                go_roundw
                case rel => exact FIN2.out _ _ _ _ (HH.out.step k hk6 _ (by omega)) (by rw [HST.out]; rfl)
                case measure => simp [intOf]; omega
              · go_wp2
                go_roundw
                case rel => exact FIN2.out _ _ _ _ (HH.out.step k hk6 _ (by omega)) (by rw [HST.out]; rfl)
                case measure => simp [intOf]; omega
            · have hb97 : ((t : Int) == 97) = false := beq_eq_false_iff_ne.2 (by omega)
              by_cases h119 : t = 119
              · subst h119
                by_cases hm4 : m4L (ltr n) = true
                · have hN4 : (4 : Int) ≤ N := by have := H4.out hm4; omega
                  have hs : ((S.extract (N - 4) N).toList == [119, 119, 119, 119]) = true := (HS4.out (H4.out hm4)).trans hm4
                  have hmn : m < 4 := HMK.out rfl hm4
                  have hm4' : (m : Int) < 4 := by omega
                  have hcm : wr.cell? ⟨B, 8 + m, none⟩ = some (.int .u64 (o (8 + m))) := (row_cell HH.out.ord _).trans (ordA_at o m hmn)
                  go_wp2
                  go_roundw
                  case rel =>
                    have hx := FIN2.out f (m + 1) _ _ (HH.out.step k hk6 (o (8 + m)) (by omega)) (by rw [HST.out, if_neg h97, if_pos rfl, if_pos hm4])
                    rw [show ((m + 1 : Nat) : Int) = (m : Int) + 1 from by omega] at hx
                    exact hx
                  case measure => simp [intOf]; omega
                · have hmf := hm4
                  have hm4 : m4L (ltr n) = false := by simpa using hmf
                  by_cases hN4 : 4 ≤ N
                  · have hN4' : (4 : Int) ≤ N := by omega
                    have hs : ((S.extract (N - 4) N).toList == [119, 119, 119, 119]) = false := (HS4.out hN4).trans hm4
                    go_wp2
                    go_roundw
                    case rel => exact FIN2.out _ _ _ _ (HH.out.step k hk6 (o 7) (by omega)) (by rw [HST.out, if_neg h97, if_pos rfl, if_neg hmf])
                    case measure => simp [intOf]; omega
                  · have hN4' : ¬ (4 : Int) ≤ N := by omega
                    go_wp2
                    go_roundw
                    case rel => exact FIN2.out _ _ _ _ (HH.out.step k hk6 (o 7) (by omega)) (by rw [HST.out, if_neg h97, if_pos rfl, if_neg hmf])
                    case measure => simp [intOf]; omega
              · have hb119 : ((t : Int) == 119) = false := beq_eq_false_iff_ne.2 (by omega)
                go_wp2
                go_roundw
                case rel => exact FIN2.out _ _ _ _ (HH.out.step k hk6 _ (by omega)) (by rw [HST.out, if_neg h97, if_neg h119])
                case measure => simp [intOf]; omega
          · obtain rfl : k = N := by omega
            have hbw : ∀ i < 6, (encS (fun k => (ltr n).getD k 0) (m4L (ltr n)) o k).1 i = wordsO o i := fun i hi => by
              have h := HE1.out i hi
              rw [HN.out, HLN.out] at h
              have e : formL n = L := by unfold formL; rw [hL]; rfl
              unfold wordsO
              rw [HNN.out, e, HLN.out]
              exact h
            have HBW := Lib.hid hbw
            clear hbw
            have hcw : CallAt wr (B + 2) n (wordsO o) := by
              have := HJ.out.cal
              unfold CallAt at this ⊢
              rw [← callA_congr n _ (wordsO o) HBW.out]
              exact this
            obtain ⟨⟨p, cd⟩, hm⟩ : ∃ z, decM n (wordsO o) = z := ⟨_, rfl⟩
            have hrd := fun w => refdec_any n (wordsO o) (words_in_range o HO.out) w
            rw [hm] at hrd
            have HRD := Lib.hid hrd
            have HEM2 : Hid (encM o = if cd = 0 ∧ eqB p o = true then (((((n : Nat) : Int), wordsO o), (0 : Int)) : (Int × (Nat → Int)) × Int) else ((0, zW), 5)) := Lib.hid (by
              unfold encM
              rw [HNN.out, hm])
            have HCW := Lib.hid hcw
            have hz := zeroOrd
            clear hrd hcw hm
            go_upto_region 27 with (first
              | (refine wpList_load_mid rfl 25 (.tmp 5) rfl (B + 2) 0 rfl (callA n (wordsO o)).toList _ (call_range HCW.out) Try.underlying25 rfl (by kernel_rfl) ?_; rw [Array.toArray_toList])
              | (go_at_call 8; refine (HRD.out _).mono ?_; rintro e w5 ⟨rfl, hb5⟩)
              | (refine wpList_store_mid rfl 29 (.tmp 9) (.tmp 138) rfl w5.heap.size 0 (ordA p) rfl rfl (ord_new w5 zO).there (by kernel_rfl) (ord_one p) ?_; obtain ⟨ho6, hb6⟩ := box_ord w5 p; generalize (w5.alloc (.cells (ordA zO) 29)).setCells w5.heap.size 0 (ordA p).toList = w6 at ho6 hb6 ⊢))
            have hb66 : Below wr.heap.size wr w6 := bgo hb5 hb6
            have o6 := HJ.out.ord.call hb66
            have r6 := HJ.out.res.call hb66
            have c6' := HCW.out.call hb66
            have b6 := bgo HJ.out.bel hb66
            have HR6 := Lib.hid r6
            have HC6 := Lib.hid c6'
            have HB6 := Lib.hid b6
            obtain ⟨x0, x1, x2, x3, x4, x5, x6, x7, x8, x9, x10, x11⟩ := ho6.cells
            obtain ⟨y0, y1, y2, y3, y4, y5, y6, y7, y8, y9, y10, y11⟩ := o6.cells
            clear hb66 hb5 hb6 o6 r6 c6' b6 ho6
            by_cases hc : cd = 0
            · subst hc
              by_cases he : eqB p o = true
              · have hem2 := HEM2.out
                rw [if_pos ⟨rfl, he⟩] at hem2
                have HE5 := Lib.hid hem2
                have hq := neO p o
                rw [he] at hq
                clear hem2 hz
                go_wp2_with (first
                  | (refine wpList_load_mid rfl 25 (.tmp 5) rfl (B + 2) 0 rfl (callA n (wordsO o)).toList _ (call_range HC6.out) Try.underlying25 rfl (by kernel_rfl) ?_; rw [Array.toArray_toList])
                  | (refine wpList_store_mid rfl 25 (.tmp 2) (.tmp 148) rfl (B + 1) 0 (callA n (wordsO o)) rfl rfl HR6.out.there (by kernel_rfl) (call_one _ _) ?_; obtain ⟨hc7, hb7⟩ := FIN.out w6 n (wordsO o) HR6.out HB6.out; generalize w6.setCells (B + 1) 0 (callA n (wordsO o)).toList = w7 at hc7 hb7 ⊢))
                obtain ⟨z0, z1, z2, z3, z4, z5, z6⟩ := hc7.cells
                refine bodyPost_ret (v := .tuple #[.agg (callA n (wordsO o)), .int .i64 0]) (by simp [results, Try.results12, go_sem, callA, z0, z1, z2, z3, z4, z5, z6]) rfl ⟨by rw [HE5.out]; try rfl, by first | exact hb7 | exact hB ▸ hb7⟩
              · have hem2 := HEM2.out
                rw [if_neg (fun h => he h.2)] at hem2
                have HE5 := Lib.hid hem2
                have hq := neO p o
                rw [(by simpa using he : eqB p o = false)] at hq
                clear hem2 hz
                go_wp2_with (refine wpList_store_mid rfl 25 (.tmp 2) (.tmp 147) rfl (B + 1) 0 (callA 0 zW) rfl rfl HR6.out.there (by kernel_rfl) (call_one _ _) ?_; obtain ⟨hc7, hb7⟩ := FIN.out w6 0 zW HR6.out HB6.out; generalize w6.setCells (B + 1) 0 (callA 0 zW).toList = w7 at hc7 hb7 ⊢)
                obtain ⟨z0, z1, z2, z3, z4, z5, z6⟩ := hc7.cells
                refine bodyPost_ret (v := .tuple #[.agg (callA 0 zW), .int .i64 5]) (by simp [results, Try.results12, go_sem, callA, z0, z1, z2, z3, z4, z5, z6]) rfl ⟨by rw [HE5.out], by first | exact hb7 | exact hB ▸ hb7⟩

            · have hem2 := HEM2.out
              rw [if_neg (fun h => hc h.1)] at hem2
              have HE5 := Lib.hid hem2
              have hcb : (cd != 0) = true := bne_iff_ne.2 hc
              have hcb2 : (cd == 0) = false := beq_eq_false_iff_ne.2 hc
              clear hem2 hz
              go_wp2_with (refine wpList_store_mid rfl 25 (.tmp 2) (.tmp 147) rfl (B + 1) 0 (callA 0 zW) rfl rfl HR6.out.there (by kernel_rfl) (call_one _ _) ?_; obtain ⟨hc7, hb7⟩ := FIN.out w6 0 zW HR6.out HB6.out; generalize w6.setCells (B + 1) 0 (callA 0 zW).toList = w7 at hc7 hb7 ⊢)
              obtain ⟨z0, z1, z2, z3, z4, z5, z6⟩ := hc7.cells
              refine bodyPost_ret (v := .tuple #[.agg (callA 0 zW), .int .i64 5]) (by simp [results, Try.results12, go_sem, callA, z0, z1, z2, z3, z4, z5, z6]) rfl ⟨by rw [HE5.out], by first | exact hb7 | exact hB ▸ hb7⟩

end Go.Proofs.Ytahagcghbeeajaa
