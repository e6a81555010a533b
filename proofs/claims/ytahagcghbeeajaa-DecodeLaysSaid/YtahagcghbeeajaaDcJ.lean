/- The law DecodeBack. -/
import Derived.Test.YtahagcghbeeajaaDcI
import Derived.Test.YtahagcghbeeajaaDcH
namespace Go.Proofs.Ytahagcghbeeajaa
set_option linter.unusedVariables false
set_option linter.unusedSimpArgs false
open Go.ChangeShapes Go.WideShapes Go.ChangeAt Go.RowKit Go.Shelf

theorem decM_congr (n : Nat) (a b : Nat → Int) (h : ∀ i < 6, a i = b i) : decM n a = decM n b := by
  have h1 : (fun L (x : Fin 6) => stopD L a x.1) = (fun L x => stopD L b x.1) := funext fun L => funext fun x => by unfold stopD; rw [h x.1 x.2]
  have h2 : (fun L (s : (Nat → Int) × Int) (x : Fin 6) => stepD L a s x.1) = (fun L s x => stepD L b s x.1) := funext fun L => funext fun s => funext fun x => by unfold stepD; rw [h x.1 x.2]
  have h3 : ∀ L : List Frm, (fun (x : Fin 6) => stopD L a x.1) = (fun x => stopD L b x.1) := fun L => congrFun h1 L
  have h4 : ∀ L : List Frm, runL n L a (fst6 6) = runL n L b (fst6 6) := fun L => by unfold runL; rw [congrFun h2 L]
  unfold decM
  cases formsL n with
  | none => rfl
  | some L => simp only [h3 L, h4 L, h 1 (by decide), h 2 (by decide)]
theorem mkO_0 (n : Nat) (L : List Frm) (a : Nat → Int) (h : ∀ i < 6, (fmAt L i).1 < 12) : mkO n L a 0 = wrap64 n := by
  have p : ∀ (t : Nat) (x : Int) (o : Nat → Int), t < 12 → putF t x o 0 = o 0 := fun t x o ht => by
    obtain rfl | rfl | rfl | rfl | rfl | rfl | rfl | rfl | rfl | rfl | rfl | rfl : t = 0 ∨ t = 1 ∨ t = 2 ∨ t = 3 ∨ t = 4 ∨ t = 5 ∨ t = 6 ∨ t = 7 ∨ t = 8 ∨ t = 9 ∨ t = 10 ∨ t = 11 := by omega
    all_goals simp [putF, up]
  unfold mkO
  rw [p _ _ _ (h 5 (by decide)), p _ _ _ (h 4 (by decide)), p _ _ _ (h 3 (by decide)), p _ _ _ (h 2 (by decide)), p _ _ _ (h 1 (by decide)), p _ _ _ (h 0 (by decide))]
  unfold o0 up
  rw [if_pos rfl]
/-- What is read is laid so. -/
theorem enc_dec (n : Nat) (a p : Nat → Int) (hn : (n : Int) ≤ 18446744073709551615) (ha : ∀ i < 6, 0 ≤ a i ∧ a i ≤ 18446744073709551615) (h : decM n a = (p, 0)) : ∃ b, encM p = (((n : Int), b), 0) ∧ ∀ i < 6, b i = a i := by
  obtain ⟨L, hL, r, s, rfl, -⟩ := dec_ok n a p h
  have e0 : opN (mkO n L a) = n := by
    unfold opN
    rw [mkO_0 n L a (forms_lt n L hL), uw n (by omega) hn]
    rfl
  have e1 : formL n = L := by unfold formL; rw [hL]; rfl
  have e2 : ∀ i < 6, wordsO (mkO n L a) i = a i := fun i hi => by
    unfold wordsO encA
    rw [e0, e1]
    by_cases hl : i < L.length
    · rw [if_pos hl]
      exact dec_get n L a hL ha r i hl
    · rw [if_neg hl]
      refine (Classical.byContradiction fun hc => s i hi ⟨?_, fun e => hc e.symm⟩)
      unfold fmAt
      rw [List.getElem?_eq_none (by omega)]
      rfl
  refine ⟨wordsO (mkO n L a), ?_, e2⟩
  unfold encM
  rw [e0, decM_congr n _ a e2, h]
  exact if_pos ⟨rfl, (eqB_iff _ _).2 (fun _ _ => rfl)⟩
set_option maxRecDepth 100000 in
set_option maxHeartbeats 4000000 in
theorem back_any (n : Nat) (a o : Nat → Int) (hn : (n : Int) ≤ 18446744073709551615) (ha : ∀ j < 6, 0 ≤ a j ∧ a j ≤ 18446744073709551615) (W : World) :
    Calls Try.prog 5 #[.agg (callA n a), .agg (ordA o)] W fun e w' => e = .returned (.bool true) ∧ Below W.heap.size W w' := by
  have hz := zeroOrd
  have hzc := zeroCall
  obtain ⟨⟨p, c⟩, hm⟩ : ∃ z, decM n a = z := ⟨_, rfl⟩
  have hd : ∀ w, Calls Try.prog 7 #[.agg (callA n a)] w fun e w' => e = .returned (.tuple #[ordV p, .int .i64 c]) ∧ Below w.heap.size w w' := fun w => by
    have := decode_any n a w
    rw [hm] at this
    exact this
  have HD := Lib.hid hd
  have HM := Lib.hid hm
  obtain ⟨⟨⟨m, b⟩, f⟩, hen⟩ : ∃ z, encM o = z := ⟨_, rfl⟩
  have he : ∀ w, Calls Try.prog 11 #[.agg (ordA o)] w fun e w' => e = .returned (.tuple #[.agg (callA m b), .int .i64 f]) ∧ Below w.heap.size w w' := fun w => by
    have := encode_any o w
    rw [hen] at this
    exact this
  have HEN := Lib.hid he
  have hcs : (f = 0 ∧ ∃ q, (∀ w, Calls Try.prog 7 #[.agg (callA m b)] w fun e w' => e = .returned (.tuple #[ordV q, .int .i64 0]) ∧ Below w.heap.size w w') ∧ eqB q o = true) ∨ (f = 5 ∧ m = 0 ∧ b = zW) := by
    unfold encM at hen
    by_cases h : (decM (opN o) (wordsO o)).2 = 0 ∧ eqB (decM (opN o) (wordsO o)).1 o = true
    · rw [if_pos h] at hen
      cases hen
      refine .inl ⟨rfl, _, fun w => ?_, h.2⟩
      have := decode_any (opN o) (wordsO o) w
      rw [h.1] at this
      exact this
    · rw [if_neg h] at hen
      cases hen
      exact .inr ⟨rfl, rfl, rfl⟩
  have HCS := Lib.hid hcs
  clear hd hm he hen hcs
  go_enter Try.func5, Try.ntmps5
  go_upto_region 1 with fail
  have hc0 : CallAt ((W.alloc (.cells (callA n a) 25)).alloc (.cells (ordA o) 29)) W.heap.size n a := alloc_old (call_new W n a) (by simp)
  have hq0 : OrdAt ((W.alloc (.cells (callA n a) 25)).alloc (.cells (ordA o) 29)) (W.heap.size + 1) o := by
    have := ord_new (W.alloc (.cells (callA n a) 25)) o
    rwa [World.size_alloc] at this
  have hb0 : Below W.heap.size W ((W.alloc (.cells (callA n a) 25)).alloc (.cells (ordA o) 29)) := bal (bal (Below.refl _ _) _) _
  generalize ((W.alloc (.cells (callA n a) 25)).alloc (.cells (ordA o) 29)) = w0 at hc0 hq0 hb0 ⊢
  have HC0 := Lib.hid hc0
  have HQ0 := Lib.hid hq0
  have HB0 := Lib.hid hb0
  clear hc0 hq0 hb0
  go_upto_region 2 with (first
    | (refine wpList_load_mid rfl 25 (.tmp 2) rfl W.heap.size 0 rfl (callA n a).toList _ (call_range HC0.out) Try.underlying25 rfl (by kernel_rfl) ?_; rw [Array.toArray_toList])
    | (go_at_call 7; refine (HD.out _).mono ?_; rintro e w1 ⟨rfl, hb1⟩)
    | (refine wpList_store_mid rfl 29 (.tmp 5) (.tmp 16) rfl w1.heap.size 0 (ordA p) rfl rfl (ord_new w1 zO).there (by kernel_rfl) (ord_one p) ?_; obtain ⟨ho2, hb2⟩ := box_ord w1 p; generalize (w1.alloc (.cells (ordA zO) 29)).setCells w1.heap.size 0 (ordA p).toList = w2 at ho2 hb2 ⊢))
  have hb02 : Below w0.heap.size w0 w2 := bgo hb1 hb2
  have HC2 := Lib.hid (HC0.out.call hb02)
  have HQ2 := Lib.hid (HQ0.out.call hb02)
  have HB2 := Lib.hid (bgo HB0.out hb02)
  have HO2 := Lib.hid ho2
  clear hb02 hb1 hb2 ho2 HC0 HQ0 HB0
  by_cases hc : c = 0
  · subst hc
    obtain ⟨b2, hed, hb2⟩ := enc_dec n a p hn ha HM.out
    have he2 : ∀ w, Calls Try.prog 11 #[.agg (ordA p)] w fun e w' => e = .returned (.tuple #[.agg (callA n b2), .int .i64 0]) ∧ Below w.heap.size w w' := fun w => by
      have := encode_any p w
      rw [hed] at this
      exact this
    have HEP := Lib.hid he2
    have hcb : callA n b2 = callA n a := by
      unfold callA
      rw [hb2 0 (by decide), hb2 1 (by decide), hb2 2 (by decide), hb2 3 (by decide), hb2 4 (by decide), hb2 5 (by decide)]
    have HCB := Lib.hid hcb
    clear he2 hed hcb hb2
    go_upto_region 4 with (first
      | (refine wpList_load_mid rfl 29 (.tmp 5) rfl w1.heap.size 0 rfl (ordA p).toList _ (ord_range HO2.out) Try.underlying29 rfl (by kernel_rfl) ?_; rw [Array.toArray_toList])
      | (go_at_call 11; refine (HEP.out _).mono ?_; rw [HCB.out]; rintro e w3 ⟨rfl, hb3⟩)
      | (refine wpList_store_mid rfl 25 (.tmp 7) (.tmp 23) rfl w3.heap.size 0 (callA n a) rfl rfl (call_new w3 0 zW).there (by kernel_rfl) (call_one _ _) ?_; obtain ⟨hc4, hb4⟩ := box_call w3 n a; generalize (w3.alloc (.cells (callA 0 zW) 25)).setCells w3.heap.size 0 (callA n a).toList = w4 at hc4 hb4 ⊢))
    have hb24 : Below w2.heap.size w2 w4 := bgo hb3 hb4
    have hc24 := HC2.out.call hb24
    have HQ4 := Lib.hid (HQ2.out.call hb24)
    have HB4 := Lib.hid (bgo HB2.out hb24)
    obtain ⟨x0, x1, x2, x3, x4, x5, x6⟩ := hc4.cells
    obtain ⟨y0, y1, y2, y3, y4, y5, y6⟩ := hc24.cells
    have hne : ∀ w, (binOp .neq 25 (.agg #[.int .u64 n, .int .u64 (a 0), .int .u64 (a 1), .int .u64 (a 2), .int .u64 (a 3), .int .u64 (a 4), .int .u64 (a 5)]) (.agg #[.int .u64 n, .int .u64 (a 0), .int .u64 (a 1), .int .u64 (a 2), .int .u64 (a 3), .int .u64 (a 4), .int .u64 (a 5)])).run Try.prog w = .ok (.bool false) w := fun w => by
      have := neC n n a a w
      rw [(eqCB_iff n n a a).2 ⟨rfl, fun _ _ => rfl⟩] at this
      exact this
    clear hc4 hc24 hb24 hb3 hb4
    go_upto_region 8 with fail
    clear x0 x1 x2 x3 x4 x5 x6 y0 y1 y2 y3 y4 y5 y6 hne HO2 HC2 HQ2 HB2
    go_upto_region 9 with (first
      | (refine wpList_load_mid rfl 29 (.tmp 3) rfl (W.heap.size + 1) 0 rfl (ordA o).toList _ (ord_range HQ4.out) Try.underlying29 rfl (by kernel_rfl) ?_; rw [Array.toArray_toList])
      | (go_at_call 11; refine (HEN.out _).mono ?_; rintro e wY ⟨rfl, hbY⟩)
      | (refine wpList_store_mid rfl 25 (.tmp 9) (.tmp 38) rfl wY.heap.size 0 (callA m b) rfl rfl (call_new wY 0 zW).there (by kernel_rfl) (call_one _ _) ?_; obtain ⟨hcZ, hbZ⟩ := box_call wY m b; generalize (wY.alloc (.cells (callA 0 zW) 25)).setCells wY.heap.size 0 (callA m b).toList = wZ at hcZ hbZ ⊢))
    have hbXZ : Below w4.heap.size w4 wZ := bgo hbY hbZ
    have hoZ := HQ4.out.call hbXZ
    have hBZ : Below W.heap.size W wZ := bgo HB4.out hbXZ
    have HCZ := Lib.hid hcZ
    have HOZ := Lib.hid hoZ
    have HBZ := Lib.hid hBZ
    clear hbXZ hbY hbZ hcZ hoZ hBZ
    rcases HCS.out with ⟨hf2, q, hdq, heq⟩ | ⟨hf2, hm0, hb0⟩
    · subst hf2
      have HDQ := Lib.hid hdq
      have hqe := eqO q o
      rw [heq] at hqe
      clear hdq heq
      go_upto_region 11 with (first
        | (refine wpList_load_mid rfl 25 (.tmp 9) rfl wY.heap.size 0 rfl (callA m b).toList _ (call_range HCZ.out) Try.underlying25 rfl (by kernel_rfl) ?_; rw [Array.toArray_toList])
        | (go_at_call 7; refine (HDQ.out _).mono ?_; rintro e wU ⟨rfl, hbU⟩)
        | (refine wpList_store_mid rfl 29 (.tmp 11) (.tmp 45) rfl wU.heap.size 0 (ordA q) rfl rfl (ord_new wU zO).there (by kernel_rfl) (ord_one q) ?_; obtain ⟨hoV, hbV⟩ := box_ord wU q; generalize (wU.alloc (.cells (ordA zO) 29)).setCells wU.heap.size 0 (ordA q).toList = wV at hoV hbV ⊢))
      have hbZV : Below wZ.heap.size wZ wV := bgo hbU hbV
      have ho3 := HOZ.out.call hbZV
      have HBV := Lib.hid (bgo HBZ.out hbZV)
      obtain ⟨x0, x1, x2, x3, x4, x5, x6, x7, x8, x9, x10, x11⟩ := hoV.cells
      obtain ⟨y0, y1, y2, y3, y4, y5, y6, y7, y8, y9, y10, y11⟩ := ho3.cells
      have hqe2 : ∀ w, (binOp .eql 29 (.agg #[.int .i64 (q 0), .int .i64 (q 1), .int .i64 (q 2), .int .i64 (q 3), .int .i64 (q 4), .int .i64 (q 5), .int .i64 (q 6), .int .u64 (q 7), .int .u64 (q 8), .int .u64 (q 9), .int .u64 (q 10), .int .u64 (q 11)]) (.agg #[.int .i64 (o 0), .int .i64 (o 1), .int .i64 (o 2), .int .i64 (o 3), .int .i64 (o 4), .int .i64 (o 5), .int .i64 (o 6), .int .u64 (o 7), .int .u64 (o 8), .int .u64 (o 9), .int .u64 (o 10), .int .u64 (o 11)])).run Try.prog w = .ok (.bool true) w := hqe
      clear hoV hbU hbV ho3 hbZV hqe hz hzc
      go_wp2_with (first
        | (go_at_call 10; refine (awake28 _).mono ?_; rintro e w9 ⟨rfl, hb9⟩))
      go_ret
      exact ⟨rfl, bgo HBV.out hb9⟩
    · subst hf2
      subst hm0
      subst hb0
      have hcz := HCZ.out
      obtain ⟨z0, z1, z2, z3, z4, z5, z6⟩ := hcz.cells
      simp only [zW] at z0 z1 z2 z3 z4 z5 z6
      have hzz : ∀ w, (zeroValue 25).run Try.prog w = .ok (.agg #[.int .u64 0, .int .u64 0, .int .u64 0, .int .u64 0, .int .u64 0, .int .u64 0, .int .u64 0]) w := zeroCall
      have hqe : ∀ w, (binOp .eql 25 (.agg #[.int .u64 0, .int .u64 0, .int .u64 0, .int .u64 0, .int .u64 0, .int .u64 0, .int .u64 0]) (.agg #[.int .u64 0, .int .u64 0, .int .u64 0, .int .u64 0, .int .u64 0, .int .u64 0, .int .u64 0])).run Try.prog w = .ok (.bool true) w := fun w => eqC 0 0 zW zW w
      clear hcz hz hzc
      go_wp2_with (first
        | (go_at_call 10; refine (awake28 _).mono ?_; rintro e w9 ⟨rfl, hb9⟩))
      go_ret
      exact ⟨rfl, bgo HBZ.out hb9⟩

  · have hp0 : p = zO := by
      have := fl_z n a (by rw [HM.out]; exact hc)
      rw [HM.out] at this
      exact this
    subst hp0
    have hcb : (c == 0) = false := beq_eq_false_iff_ne.2 hc
    have ho2 := HO2.out
    obtain ⟨x0, x1, x2, x3, x4, x5, x6, x7, x8, x9, x10, x11⟩ := ho2.cells
    simp only [zO] at x0 x1 x2 x3 x4 x5 x6 x7 x8 x9 x10 x11
    have hzz : ∀ w, (zeroValue 29).run Try.prog w = .ok (.agg #[.int .i64 0, .int .i64 0, .int .i64 0, .int .i64 0, .int .i64 0, .int .i64 0, .int .i64 0, .int .u64 0, .int .u64 0, .int .u64 0, .int .u64 0, .int .u64 0]) w := zeroOrd
    have hne : ∀ w, (binOp .neq 29 (.agg #[.int .i64 0, .int .i64 0, .int .i64 0, .int .i64 0, .int .i64 0, .int .i64 0, .int .i64 0, .int .u64 0, .int .u64 0, .int .u64 0, .int .u64 0, .int .u64 0]) (.agg #[.int .i64 0, .int .i64 0, .int .i64 0, .int .i64 0, .int .i64 0, .int .i64 0, .int .i64 0, .int .u64 0, .int .u64 0, .int .u64 0, .int .u64 0, .int .u64 0])).run Try.prog w = .ok (.bool false) w := fun w => neO zO zO w
    clear ho2 hz
    go_upto_region 8 with fail
    clear x0 x1 x2 x3 x4 x5 x6 x7 x8 x9 x10 x11 hne hzz HO2 HC2
    have hz := zeroOrd
    go_upto_region 9 with (first
      | (refine wpList_load_mid rfl 29 (.tmp 3) rfl (W.heap.size + 1) 0 rfl (ordA o).toList _ (ord_range HQ2.out) Try.underlying29 rfl (by kernel_rfl) ?_; rw [Array.toArray_toList])
      | (go_at_call 11; refine (HEN.out _).mono ?_; rintro e wY ⟨rfl, hbY⟩)
      | (refine wpList_store_mid rfl 25 (.tmp 9) (.tmp 38) rfl wY.heap.size 0 (callA m b) rfl rfl (call_new wY 0 zW).there (by kernel_rfl) (call_one _ _) ?_; obtain ⟨hcZ, hbZ⟩ := box_call wY m b; generalize (wY.alloc (.cells (callA 0 zW) 25)).setCells wY.heap.size 0 (callA m b).toList = wZ at hcZ hbZ ⊢))
    have hbXZ : Below w2.heap.size w2 wZ := bgo hbY hbZ
    have hoZ := HQ2.out.call hbXZ
    have hBZ : Below W.heap.size W wZ := bgo HB2.out hbXZ
    have HCZ := Lib.hid hcZ
    have HOZ := Lib.hid hoZ
    have HBZ := Lib.hid hBZ
    clear hbXZ hbY hbZ hcZ hoZ hBZ
    rcases HCS.out with ⟨hf2, q, hdq, heq⟩ | ⟨hf2, hm0, hb0⟩
    · subst hf2
      have HDQ := Lib.hid hdq
      have hqe := eqO q o
      rw [heq] at hqe
      clear hdq heq
      go_upto_region 11 with (first
        | (refine wpList_load_mid rfl 25 (.tmp 9) rfl wY.heap.size 0 rfl (callA m b).toList _ (call_range HCZ.out) Try.underlying25 rfl (by kernel_rfl) ?_; rw [Array.toArray_toList])
        | (go_at_call 7; refine (HDQ.out _).mono ?_; rintro e wU ⟨rfl, hbU⟩)
        | (refine wpList_store_mid rfl 29 (.tmp 11) (.tmp 45) rfl wU.heap.size 0 (ordA q) rfl rfl (ord_new wU zO).there (by kernel_rfl) (ord_one q) ?_; obtain ⟨hoV, hbV⟩ := box_ord wU q; generalize (wU.alloc (.cells (ordA zO) 29)).setCells wU.heap.size 0 (ordA q).toList = wV at hoV hbV ⊢))
      have hbZV : Below wZ.heap.size wZ wV := bgo hbU hbV
      have ho3 := HOZ.out.call hbZV
      have HBV := Lib.hid (bgo HBZ.out hbZV)
      obtain ⟨x0, x1, x2, x3, x4, x5, x6, x7, x8, x9, x10, x11⟩ := hoV.cells
      obtain ⟨y0, y1, y2, y3, y4, y5, y6, y7, y8, y9, y10, y11⟩ := ho3.cells
      have hqe2 : ∀ w, (binOp .eql 29 (.agg #[.int .i64 (q 0), .int .i64 (q 1), .int .i64 (q 2), .int .i64 (q 3), .int .i64 (q 4), .int .i64 (q 5), .int .i64 (q 6), .int .u64 (q 7), .int .u64 (q 8), .int .u64 (q 9), .int .u64 (q 10), .int .u64 (q 11)]) (.agg #[.int .i64 (o 0), .int .i64 (o 1), .int .i64 (o 2), .int .i64 (o 3), .int .i64 (o 4), .int .i64 (o 5), .int .i64 (o 6), .int .u64 (o 7), .int .u64 (o 8), .int .u64 (o 9), .int .u64 (o 10), .int .u64 (o 11)])).run Try.prog w = .ok (.bool true) w := hqe
      clear hoV hbU hbV ho3 hbZV hqe hz hzc
      go_wp2_with (first
        | (go_at_call 10; refine (awake28 _).mono ?_; rintro e w9 ⟨rfl, hb9⟩))
      go_ret
      exact ⟨rfl, bgo HBV.out hb9⟩
    · subst hf2
      subst hm0
      subst hb0
      have hcz := HCZ.out
      obtain ⟨z0, z1, z2, z3, z4, z5, z6⟩ := hcz.cells
      simp only [zW] at z0 z1 z2 z3 z4 z5 z6
      have hzz : ∀ w, (zeroValue 25).run Try.prog w = .ok (.agg #[.int .u64 0, .int .u64 0, .int .u64 0, .int .u64 0, .int .u64 0, .int .u64 0, .int .u64 0]) w := zeroCall
      have hqe : ∀ w, (binOp .eql 25 (.agg #[.int .u64 0, .int .u64 0, .int .u64 0, .int .u64 0, .int .u64 0, .int .u64 0, .int .u64 0]) (.agg #[.int .u64 0, .int .u64 0, .int .u64 0, .int .u64 0, .int .u64 0, .int .u64 0, .int .u64 0])).run Try.prog w = .ok (.bool true) w := fun w => eqC 0 0 zW zW w
      clear hcz hz hzc
      go_wp2_with (first
        | (go_at_call 10; refine (awake28 _).mono ?_; rintro e w9 ⟨rfl, hb9⟩))
      go_ret
      exact ⟨rfl, bgo HBZ.out hb9⟩

end Go.Proofs.Ytahagcghbeeajaa
