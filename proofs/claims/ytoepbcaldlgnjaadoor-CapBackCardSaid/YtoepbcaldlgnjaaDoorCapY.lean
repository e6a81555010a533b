/- The law CapReads. -/
import Derived.Test.YtoepbcaldlgnjaaDoorCapX
namespace Go.Proofs.YtoepbcaldlgnjaaDoor
set_option linter.unusedVariables false
set_option linter.unusedSimpArgs false
open Go.ChangeShapes Go.WideShapes Go.ChangeAt Go.RowKit Go.Shelf

theorem open_s25 {H : Type} {enc : TypeId × Value → H} {W : World} {base : Nat} {v : Value} {d : DataW H} {ps : List MemPlace} (hval : Value.okWide Tryd.prog W .any base 25 v) (hd : DataW.Trod enc Tryd.prog W 0 (fun _ => true) true 25 v d ps) :
    ∃ p n c, v = .slice p n c ∧ n ≤ c ∧ c ≤ maxLen ∧ (p = none → n = 0 ∧ c = 0) ∧ ∃ X, WordsIn W p n X := by
  obtain ⟨p, n, c, rfl, h1, h2, h5, b, off, h3, h4⟩ := open_rows (C := 1) Tryd.underlying25 (by kernel_rfl) (by kernel_rfl) (by decide) hval hd
  refine ⟨p, n, c, rfl, h1, h2, h5, fun k => intAt W b (off + (k * 1 + 0)), b, off, h3, fun k hk => ?_⟩
  obtain ⟨c0, o0⟩ := h4 k hk 0 (.i .u64) (by kernel_rfl)
  have e : off + (k * 1 + 0) = off + k := by omega
  rw [e] at c0 o0
  have hw : 0 ≤ intAt W b (off + k) ∧ intAt W b (off + k) ≤ 18446744073709551615 := by
    simp [Lit.wf, IntKind.min, IntKind.max, IntKind.signed, IntKind.bits] at o0
    exact ⟨by omega, by omega⟩
  dsimp only
  rw [e]
  exact ⟨c0, hw⟩
theorem WordsIn.go {w w' : World} {p : Option Addr} {n : Nat} {X : Nat → Int} (h : WordsIn w p n X) (k : Below w.heap.size w w') : WordsIn w' p n X := by
  obtain ⟨b, off, h1, h2⟩ := h
  refine ⟨b, off, fun hn => ⟨(h1 hn).1, Nat.lt_of_lt_of_le (h1 hn).2 k.size⟩, fun j hj => ⟨(k.cell (p := ⟨b, off + j, none⟩) (h1 (by omega)).2).trans (h2 j hj).1, (h2 j hj).2⟩⟩
theorem same_zero (w : World) (p q : Option Addr) (c d : Nat) : Calls Tryd.prog 9 #[.slice p 0 c, .slice q 0 d] w fun e w' => e = .returned (.bool true) ∧ ∃ q, w' = w.drewN q := by
  go_enter Tryd.func9, Tryd.ntmps9
  go_wp2
  refine wp_loop_rounds 1 ?_
  rw [rounds_succ]
  go_wp2
  go_ret
  exact ⟨rfl, 0, rfl⟩
set_option maxRecDepth 100000 in
set_option maxHeartbeats 2000000 in
theorem kept_any (w : World) (g : Nat) (p : Option Addr) (n c : Nat) (X : Nat → Int) (hn : n ≤ 8) (hL : Lent w g n X) (hX : WordsIn w p n X) :
    Calls Tryd.prog 18 #[.slice (some ⟨g, 0, none⟩) n (n + 3), .slice p n c] w fun e w' => e = .returned (.bool true) ∧ ∃ q, w' = w.drewN q := by
  obtain ⟨b, off, hb, hX⟩ := hX
  have i64 : (n : Int) ≤ 8 := by omega
  have HL := Lib.hid hL
  have HX := Lib.hid hX
  clear hL hX
  have hS : ∀ w', (∃ q, w' = w.drewN q) → Calls Tryd.prog 9 #[.slice (some ⟨g, 0, none⟩) n (n + 3), .slice p n c] w' fun e w'' => e = .returned (.bool true) ∧ ∃ q, w'' = w'.drewN q := by
    rintro w' ⟨q, rfl⟩
    by_cases h0 : 0 < n
    · obtain ⟨rfl, -⟩ := hb h0
      refine (same2_any _ g b off n (n + 3) c X X (by omega) (fun j hj => ?_) (fun j hj => ?_)).mono ?_
      · simpa using HL.out.1 j hj
      · simpa using (HX.out j hj).1
      · rw [eqN_self]
        rintro e w'' h
        exact h
    · obtain rfl : n = 0 := by omega
      exact same_zero _ _ _ _ _
  have HS := Lib.hid hS
  clear hS hb
  go_enter Tryd.func18, Tryd.ntmps18
  go_wp2
  simp only [Nat.add_sub_cancel_left]
  go_loopw [6] (fun i wr => ∃ k q : Nat, k ≤ 3 ∧ i = .int .i64 k ∧ wr = w.drewN q) (fun i _ => 3 - (intOf i).toNat)
  case atStart => exact ⟨0, 0, by omega, rfl, rfl⟩
  case round =>
    obtain ⟨k, q, hk, rfl, rfl⟩ := hrel
    by_cases hlt : k < 3
    · have hlt' : (k : Int) < 3 := by omega
      have ck := HL.out.2.1 k hlt
      go_wp2
      go_roundw
      case rel => exact ⟨k + 1, q, by omega, by go_num, rfl⟩
      case measure => simp [intOf]; omega
    · obtain rfl : k = 3 := by omega
      go_wp2_with (go_at_call 9; refine (HS.out _ ⟨q, rfl⟩).mono ?_; rintro e w2 ⟨rfl, q2, rfl⟩)
      go_ret
      exact ⟨rfl, _, rfl⟩
def decVal (n : Nat) (X : Nat → Int) : Value := if n = 2 then decR (X 0) (X 1) else capV 0 0 0 0 0 0 0 0
def decErr (n : Nat) (X : Nat → Int) : Int := if n = 2 then decE (X 0) (X 1) else 5
theorem dec_lent (w : World) (hT : TabG w) (hL : LaidV_laid_seisin_cap_layout w) (g n : Nat) (X : Nat → Int) (hn : n ≤ 8) (h : Lent w g n X) (hX : ∀ k, k < n → 0 ≤ X k ∧ X k ≤ 18446744073709551615) :
    Calls Tryd.prog 16 #[.slice (some ⟨g, 0, none⟩) n (n + 3)] w fun r w' => r = .returned (.tuple #[decVal n X, .int .i64 (decErr n X)]) ∧ Below w.heap.size w w' := by
  unfold decVal decErr
  by_cases h2 : n = 2
  · subst h2
    rw [if_pos rfl, if_pos rfl]
    exact decode_any w hT hL g 5 (X 0) (X 1) (hX 0 (by omega)) (hX 1 (by omega)) (by omega) (h.1 0 (by omega)) (h.1 1 (by omega)) h.2.2
  · rw [if_neg h2, if_neg h2]
    exact decode_len w _ n _ h2 (by omega)
theorem refdec_in (w : World) (p : Option Addr) (n c : Nat) (X : Nat → Int) (hn : n ≤ 8) (hc : n ≤ c) (h : WordsIn w p n X) :
    Calls Tryd.prog 17 #[.slice p n c] w fun r w' => r = .returned (.tuple #[decVal n X, .int .i64 (decErr n X)]) ∧ Below w.heap.size w w' := by
  unfold decVal decErr
  by_cases h2 : n = 2
  · subst h2
    obtain ⟨b, off, hb, hX⟩ := h
    obtain ⟨rfl, hbb⟩ := hb (by omega)
    rw [if_pos rfl, if_pos rfl]
    exact refdec_any w b off c (X 0) (X 1) (hX 0 (by omega)).2 (hX 1 (by omega)).2 hc (hX 0 (by omega)).1 (hX 1 (by omega)).1 hbb
  · rw [if_neg h2, if_neg h2]
    exact refdec_len w p n c h2 (by omega)
theorem dec_form (n : Nat) (X : Nat → Int) : (∃ a b c d e f g h, decVal n X = capV a b c d e f g h) ∧ 0 ≤ decErr n X ∧ decErr n X ≤ 100 := by
  unfold decVal decErr decR decE
  split
  · split
    · exact ⟨⟨_, _, _, _, _, _, _, _, rfl⟩, by omega, by omega⟩
    · exact ⟨⟨_, _, _, _, _, _, _, _, rfl⟩, by omega, by omega⟩
  · exact ⟨⟨_, _, _, _, _, _, _, _, rfl⟩, by omega, by omega⟩
set_option maxRecDepth 100000 in
set_option maxHeartbeats 4000000 in
theorem walk_capReads {W : World} (p : Option Addr) (n c : Nat) (hx : n ≤ c ∧ c ≤ maxLen ∧ (p = none → n = 0 ∧ c = 0) ∧ ∃ X, WordsIn W p n X) (hL : LaidV_laid_math_bits_deBruijn64tab W ∧ LaidV_laid_seisin_cap_layout W) :
    Calls Tryd.prog 4 #[.slice p n c] W fun e w' => e = .returned (.bool true) ∧ Below W.heap.size W w' := by
  obtain ⟨hT0, hLay⟩ := hL
  have hT : TabG W := hT0
  obtain ⟨h1, h2, h3, X, hX⟩ := hx
  unfold maxLen at h2
  have HX := Lib.hid hX
  have HT := Lib.hid hT
  have HL := Lib.hid hLay
  clear hX hT hT0 hLay
  by_cases hn : 8 < n
  · go_enter Tryd.func4, Tryd.ntmps4
    go_wp2_with (first
      | (go_at_call 14; refine (awake13 _ HT.out HL.out).mono ?_; rintro e w3 ⟨rfl, hb3⟩))
    go_ret
    exact ⟨rfl, hb3⟩
  have hn' : n ≤ 8 := by omega
  have hn8 : (n : Int) ≤ 8 := by omega
  have HP := Lib.hid h3
  have HXB := Lib.hid (show ∀ k, k < n → 0 ≤ X k ∧ X k ≤ 18446744073709551615 from fun k hk => by obtain ⟨b, off, _, h⟩ := HX.out; exact (h k hk).2)
  obtain ⟨⟨va, vb, vc, vd, ve, vf, vg, vh, hv⟩, he0, he1⟩ := dec_form n X
  obtain ⟨er, her⟩ : ∃ er, decErr n X = er := ⟨_, rfl⟩
  rw [her] at he0 he1
  have HV := Lib.hid hv
  have HE := Lib.hid her
  clear hn h3 hv her
  go_enter Tryd.func4, Tryd.ntmps4
  go_wp2_with (first
    | (go_at_call 15; refine (lend_any _ p n c X hn' HX.out HP.out).mono ?_; rintro e w1 ⟨g, rfl, hg, hl1, hb1⟩; have HL1 := Lib.hid hl1; have HX1 := Lib.hid (HX.out.go hb1); have hz1 := hb1.size; clear hl1)
    | (go_at_call 16; refine (dec_lent _ (HT.out.call hb1) (HL.out.call hb1) g n X hn' HL1.out HXB.out).mono ?_; rw [HV.out, HE.out]; rintro e w2 ⟨rfl, hb2⟩; have HL2 := Lib.hid (HL1.out.go (bal hb2 (.cells #[.int .i64 va, .int .i64 vb, .int .i64 vc, .int .u64 vd, .int .i64 ve, .int .i64 vf, .int .i64 vg, .int .i64 vh] 24))); have HX2 := Lib.hid (HX1.out.go (bal hb2 (.cells #[.int .i64 va, .int .i64 vb, .int .i64 vc, .int .u64 vd, .int .i64 ve, .int .i64 vf, .int .i64 vg, .int .i64 vh] 24))); have hz2 := hb2.size)
    | (go_at_call 17; refine (refdec_in _ p n c X hn' h1 HX2.out).mono ?_; rw [HV.out, HE.out]; rintro e w3 ⟨rfl, hb3⟩; obtain ⟨hc3, hf3⟩ := bcell hb3; have HL3 := Lib.hid (HL2.out.go hb3); have HX3 := Lib.hid (HX2.out.go hb3); have hz3 := hb3.size; have hz4 : w2.heap.size < w3.heap.size := (by simp at hz3; omega))
    | (go_at_call 10; refine (num_c _ _ ⟨he0, he1⟩).mono ?_; rintro e w4 ⟨rfl, rfl⟩)
    | (go_at_call 18; refine (kept_any _ g p n c X hn' (HL3.out.go (bal (Below.refl _ _) _)) (HX3.out.go (bal (Below.refl _ _) _))).mono ?_; rintro e w5 ⟨rfl, q, rfl⟩)
    | (go_at_call 14; refine (awake13 _ (HT.out.call (below_drewN (bal (bgo (bal (bgo hb1 hb2) _) hb3) _) _)) (HL.out.call (below_drewN (bal (bgo (bal (bgo hb1 hb2) _) hb3) _) _))).mono ?_; rintro e w7 ⟨rfl, hb7⟩))
  go_ret
  exact ⟨rfl, bgo (below_drewN (bal (bgo (bal (bgo hb1 hb2) _) hb3) _) _) hb7⟩
end Go.Proofs.YtoepbcaldlgnjaaDoor
