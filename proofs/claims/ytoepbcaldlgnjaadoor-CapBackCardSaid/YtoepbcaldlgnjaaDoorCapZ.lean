/- The law CapBack. -/
import Derived.Test.YtoepbcaldlgnjaaDoorCapY
namespace Go.Proofs.YtoepbcaldlgnjaaDoor
set_option linter.unusedVariables false
set_option linter.unusedSimpArgs false
open Go.ChangeShapes Go.WideShapes Go.ChangeAt Go.RowKit Go.Shelf

def sameC (a b c d e f g h a' b' c' d' e' f' g' h' : Int) : Bool := decide (a = a' ∧ b = b' ∧ c = c' ∧ d = d' ∧ e = e' ∧ f = f' ∧ g = g' ∧ h = h')
theorem eqC (a b c d e f g h a' b' c' d' e' f' g' h' : Int) (w : World) : (binOp .eql 24 (.agg #[.int .i64 a, .int .i64 b, .int .i64 c, .int .u64 d, .int .i64 e, .int .i64 f, .int .i64 g, .int .i64 h]) (.agg #[.int .i64 a', .int .i64 b', .int .i64 c', .int .u64 d', .int .i64 e', .int .i64 f', .int .i64 g', .int .i64 h'])).run Tryd.prog w = .ok (.bool (sameC a b c d e f g h a' b' c' d' e' f' g' h')) w := by
  unfold sameC
  go_simp
  repeat (split <;> simp_all)
theorem neC (a b c d e f g h a' b' c' d' e' f' g' h' : Int) (w : World) : (binOp .neq 24 (.agg #[.int .i64 a, .int .i64 b, .int .i64 c, .int .u64 d, .int .i64 e, .int .i64 f, .int .i64 g, .int .i64 h]) (.agg #[.int .i64 a', .int .i64 b', .int .i64 c', .int .u64 d', .int .i64 e', .int .i64 f', .int .i64 g', .int .i64 h'])).run Tryd.prog w = .ok (.bool (!sameC a b c d e f g h a' b' c' d' e' f' g' h')) w := by
  unfold sameC
  go_simp
  repeat (split <;> simp_all)
theorem enc_dec {a b c d e f g h : Int} (hd : 0 ≤ d) (hx : capB a b c d e f g h = true) : dA (encA a b c g h) = a ∧ dC (encA a b c g h) = c ∧ dB (encA a b c g h) = b ∧ dH (encA a b c g h) = h ∧ dG (encA a b c g h) = g ∧ dD (encB d e f) = d ∧ dE (encB d e f) = e ∧ dF (encB d e f) = f := by
  obtain ⟨ha, hc, hb, hh, hg, hd, he, hf⟩ := cap_bounds hd hx
  unfold dA dC dB dH dG dD dE dF encA encB
  exact ⟨by omega, by omega, by omega, by omega, by omega, by omega, by omega, by omega⟩
theorem enc_u64 {a b c d e f g h : Int} (hd : 0 ≤ d) (hx : capB a b c d e f g h = true) : (0 ≤ encA a b c g h ∧ encA a b c g h ≤ 18446744073709551615) ∧ 0 ≤ encB d e f ∧ encB d e f ≤ 18446744073709551615 := by
  obtain ⟨ha, hc, hb, hh, hg, hd, he, hf⟩ := cap_bounds hd hx
  unfold encA encB
  exact ⟨⟨by omega, by omega⟩, by omega, by omega⟩
theorem decB_enc {a b c d e f g h : Int} (hd : 0 ≤ d) (hx : capB a b c d e f g h = true) : decB (encA a b c g h) (encB d e f) = true ∧ decR (encA a b c g h) (encB d e f) = capV a b c d e f g h := by
  obtain ⟨e1, e2, e3, e4, e5, e6, e7, e8⟩ := enc_dec hd hx
  have h1 : decB (encA a b c g h) (encB d e f) = true := by
    unfold decB
    rw [e1, e2, e3, e4, e5, e6, e7, e8, hx, eqN_yes fun _ _ => rfl]
    rfl
  refine ⟨h1, ?_⟩
  rw [decR_yes h1, e1, e2, e3, e4, e5, e6, e7, e8]
theorem dec_enc {u v : Int} (h : decB u v = true) : capB (dA u) (dB u) (dC u) (dD v) (dE v) (dF v) (dG u) (dH u) = true ∧ encA (dA u) (dB u) (dC u) (dG u) (dH u) = u ∧ encB (dD v) (dE v) (dF v) = v := by
  unfold decB at h
  rw [Bool.and_eq_true] at h
  obtain ⟨h1, h2⟩ := h
  have h3 := of_decide_eq_true h2
  refine ⟨h1, ?_, ?_⟩
  · have := h3 0 (by omega)
    simpa using this
  · have := h3 1 (by omega)
    simpa using this
theorem enc_same {a b c d e f g h a' b' c' d' e' f' g' h' : Int} (hd : 0 ≤ d) (hd' : 0 ≤ d') (hx : capB a b c d e f g h = true) (hx' : capB a' b' c' d' e' f' g' h' = true) :
    eqN 2 (fun j => if j = 0 then encA a b c g h else encB d e f) (fun j => if j = 0 then encA a' b' c' g' h' else encB d' e' f') = sameC a b c d e f g h a' b' c' d' e' f' g' h' := by
  obtain ⟨e1, e2, e3, e4, e5, e6, e7, e8⟩ := enc_dec hd hx
  obtain ⟨i1, i2, i3, i4, i5, i6, i7, i8⟩ := enc_dec hd' hx'
  unfold sameC
  rw [Bool.eq_iff_iff, decide_eq_true_iff]
  constructor
  · intro q
    have q3 := of_decide_eq_true q
    have q0 := q3 0 (by omega)
    have q1 := q3 1 (by omega)
    simp only [if_true, Nat.one_ne_zero, if_false] at q0 q1
    rw [q0] at e1 e2 e3 e4 e5
    rw [q1] at e6 e7 e8
    exact ⟨e1.symm.trans i1, e3.symm.trans i3, e2.symm.trans i2, e6.symm.trans i6, e7.symm.trans i7, e8.symm.trans i8, e5.symm.trans i5, e4.symm.trans i4⟩
  · intro q
    obtain ⟨q1, q2, q3, q4, q5, q6, q7, q8⟩ := q
    rw [q1, q2, q3, q4, q5, q6, q7, q8]
    exact eqN_self _ _
/-- What Encode tells. -/
def EncAt (w : World) (m : Bool) (v : Value) (A B : Int) : Prop := (m = true → ∃ G, v = .slice (some ⟨G, 0, none⟩) 2 2 ∧ Row2 w G A B) ∧ (m = false → v = .slice none 0 0)
theorem EncAt.go {w w' : World} {m : Bool} {v : Value} {A B : Int} (h : EncAt w m v A B) (k : Below w.heap.size w w') : EncAt w' m v A B :=
  ⟨fun e => by obtain ⟨G, h1, h2⟩ := h.1 e; exact ⟨G, h1, h2.go k⟩, h.2⟩
def ImpT (n : Bool) (p : Prop) : Prop := n = true → p
theorem ImpT.yes {p : Prop} (h : ImpT true p) : p := h rfl
def decM (m : Bool) (a b c d e f g h : Int) : Value := if m = true then capV a b c d e f g h else capV 0 0 0 0 0 0 0 0
def errM (m : Bool) : Int := if m = true then 0 else 5
theorem encode_any (a b c d e f g h : Int) (m : Bool) (w : World) (hT : TabG w) (hL : LaidV_laid_seisin_cap_layout w) (hd : 0 ≤ d) (he : e ≤ 9223372036854775807) (hx : capB a b c d e f g h = m) :
    Calls Tryd.prog 7 #[capV a b c d e f g h] w fun r w' => ∃ v, r = .returned (.tuple #[v, .int .i64 (errM m)]) ∧ EncAt w' m v (encA a b c g h) (encB d e f) ∧ Below w.heap.size w w' := by
  cases m
  · refine (encode_no a b c d e f g h w hT he hx).mono ?_
    rintro r w' ⟨rfl, hb⟩
    exact ⟨_, rfl, ⟨fun e => (by cases e), fun _ => rfl⟩, hb⟩
  · refine (encode_yes a b c d e f g h w hT hL hd hx).mono ?_
    rintro r w' ⟨G, rfl, hG, hr, hb⟩
    exact ⟨_, rfl, ⟨fun _ => ⟨G, rfl, hr⟩, fun e => (by cases e)⟩, hb⟩
theorem decode_enc (a b c d e f g h : Int) (m : Bool) (v : Value) (w : World) (hT : TabG w) (hL : LaidV_laid_seisin_cap_layout w) (hd : 0 ≤ d) (hx : capB a b c d e f g h = m) (hv : EncAt w m v (encA a b c g h) (encB d e f)) :
    Calls Tryd.prog 16 #[v] w fun r w' => r = .returned (.tuple #[decM m a b c d e f g h, .int .i64 (errM m)]) ∧ Below w.heap.size w w' := by
  cases m
  · rw [hv.2 rfl]
    exact decode_len w _ 0 _ (by omega) (by omega)
  · obtain ⟨G, rfl, hr⟩ := hv.1 rfl
    obtain ⟨h1, h2⟩ := decB_enc hd hx
    obtain ⟨u1, u2⟩ := enc_u64 hd hx
    have := decode_any w hT hL G 2 _ _ u1 u2 (by omega) (hr.cells 0 (by omega)) (hr.cells 1 (by omega)) hr.lt
    rw [h2, decE_yes h1] at this
    exact this
theorem same_enc (A B A' B' : Int) (v v' : Value) (w : World) (h : EncAt w true v A B) (h' : EncAt w true v' A' B') :
    Calls Tryd.prog 9 #[v, v'] w fun e w' => e = .returned (.bool (eqN 2 (fun j => if j = 0 then A else B) (fun j => if j = 0 then A' else B'))) ∧ ∃ q, w' = w.drewN q := by
  obtain ⟨G, rfl, hr⟩ := h.1 rfl
  obtain ⟨G', rfl, hr'⟩ := h'.1 rfl
  exact same2_any w G G' 0 2 2 2 _ _ (by omega) hr.cells hr'.cells0
theorem cap0 : capB 0 0 0 0 0 0 0 0 = true := by decide +kernel
theorem dec_facts (u v : Int) (n : Bool) (hn : decB u v = n) : ∃ a b c d e f g h, decR u v = capV a b c d e f g h ∧ decE u v = errM n ∧ 0 ≤ d ∧ e ≤ 9223372036854775807 ∧ capB a b c d e f g h = true ∧ ImpT n (encA a b c g h = u ∧ encB d e f = v) := by
  cases n
  · exact ⟨0, 0, 0, 0, 0, 0, 0, 0, decR_no hn, decE_no hn, by omega, by omega, cap0, fun e => by cases e⟩
  · obtain ⟨h1, h2, h3⟩ := dec_enc hn
    exact ⟨_, _, _, _, _, _, _, _, decR_yes hn, decE_yes hn, (dD_b v).1, by have := dE_b v; omega, h1, fun _ => ⟨h2, h3⟩⟩
theorem encode_z (a b c d e f g h u v : Int) (n : Bool) (w : World) (hT : TabG w) (hL : LaidV_laid_seisin_cap_layout w) (hd : 0 ≤ d) (hx : capB a b c d e f g h = true) (hn : ImpT n (encA a b c g h = u ∧ encB d e f = v)) :
    Calls Tryd.prog 7 #[capV a b c d e f g h] w fun r w' => ∃ G : Nat, r = .returned (.tuple #[.slice (some ⟨G, 0, none⟩) 2 2, .int .i64 0]) ∧ ImpT n (Row2 w' G u v) ∧ Below w.heap.size w w' := by
  refine (encode_yes a b c d e f g h w hT hL hd hx).mono ?_
  rintro r w' ⟨G, rfl, hG, hr, hb⟩
  refine ⟨G, rfl, fun e => ?_, hb⟩
  obtain ⟨e1, e2⟩ := hn e
  rw [e1, e2] at hr
  exact hr
theorem back_facts (a b c d e f g h : Int) (m : Bool) : ∃ a' b' c' d' e' f' g' h' s, decM m a b c d e f g h = capV a' b' c' d' e' f' g' h' ∧ sameC a' b' c' d' e' f' g' h' a b c d e f g h = s ∧ (m = true → s = true) := by
  cases m
  · exact ⟨_, _, _, _, _, _, _, _, _, rfl, rfl, fun e => by cases e⟩
  · exact ⟨_, _, _, _, _, _, _, _, _, rfl, rfl, fun _ => by simp [sameC]⟩
set_option maxRecDepth 100000 in
set_option maxHeartbeats 4000000 in
theorem back_any (ca cb cc cd ce cf cg ch da db dc dd de df dg dh u v : Int) (m1 m2 t n : Bool) (W : World) (hT : TabG W) (hLay : LaidV_laid_seisin_cap_layout W) (c0 : 0 ≤ cd) (d0 : 0 ≤ dd) (ce' : ce ≤ 9223372036854775807) (de' : de ≤ 9223372036854775807) (hu : 0 ≤ u ∧ u ≤ 18446744073709551615) (hv : 0 ≤ v ∧ v ≤ 18446744073709551615)
    (h1 : capB ca cb cc cd ce cf cg ch = m1) (h2 : capB da db dc dd de df dg dh = m2) (ht : sameC ca cb cc cd ce cf cg ch da db dc dd de df dg dh = t) (hn : decB u v = n) :
    Calls Tryd.prog 5 #[capV ca cb cc cd ce cf cg ch, capV da db dc dd de df dg dh, .int .u64 u, .int .u64 v] W fun e w' => e = .returned (.bool true) ∧ Below W.heap.size W w' := by
  have HT := Lib.hid hT
  have HL := Lib.hid hLay
  have H1 := Lib.hid h1
  have H2 := Lib.hid h2
  have HS : Hid (ImpT m1 (ImpT m2 (eqN 2 (fun j => if j = 0 then encA ca cb cc cg ch else encB cd ce cf) (fun j => if j = 0 then encA da db dc dg dh else encB dd de df) = t))) := Lib.hid (fun (e1 : m1 = true) (e2 : m2 = true) => (enc_same c0 d0 (h1.trans e1) (h2.trans e2)).trans ht)
  have HQ := eqC ca cb cc cd ce cf cg ch da db dc dd de df dg dh
  rw [ht] at HQ
  have HU := Lib.hid hu
  have HV := Lib.hid hv
  obtain ⟨ya, yb, yc, yd, ye, yf, yg, yh, s, hy, hs, hsm⟩ := back_facts ca cb cc cd ce cf cg ch m1
  have HY := Lib.hid hy
  have HNQ := neC ya yb yc yd ye yf yg yh ca cb cc cd ce cf cg ch
  rw [hs] at HNQ
  obtain ⟨za, zb, zc, zd, ze, zf, zg, zh, hz, hze, z0, z1, hzb, hzn⟩ := dec_facts u v n hn
  have HZ := Lib.hid hz
  have HZE := Lib.hid hze
  have HZB := Lib.hid hzb
  have HZN := Lib.hid hzn
  clear hT hLay h1 h2 ht hn hu hv hy hs hz hze hzb hzn
  cases m1 <;> cases m2 <;> cases t <;> cases n
  all_goals
    (try (have es := hsm rfl; subst es))
    clear hsm
    go_enter Tryd.func5, Tryd.ntmps5
    go_wp2_with (first
      | (have _t := hv2; go_at_call 16; (refine (decode_enc ca cb cc cd ce cf cg ch _ v1 _ (HT.out.call (bgo (bgo (bal (bal (Below.refl _ _) _) _) hb1) hb2)) (HL.out.call (bgo (bgo (bal (bal (Below.refl _ _) _) _) hb1) hb2)) c0 H1.out (EncAt.go hv1.out hb2)).mono ?_; rw [HY.out]; simp only [errM, reduceIte, Bool.false_eq_true]; rintro r w3 ⟨rfl, hb3⟩))
      | (have _t := hv1; go_at_call 7; refine (encode_any da db dc dd de df dg dh _ _ (HT.out.call (bgo (bal (bal (Below.refl _ _) _) _) hb1)) (HL.out.call (bgo (bal (bal (Below.refl _ _) _) _) hb1)) d0 de' H2.out).mono ?_; simp only [errM, reduceIte, Bool.false_eq_true]; rintro r w2 ⟨v2, rfl, hv2', hb2⟩; have hv2 := Lib.hid hv2'; clear hv2')
      | (go_at_call 7; refine (encode_any ca cb cc cd ce cf cg ch _ _ (HT.out.call (bal (bal (Below.refl _ _) _) _)) (HL.out.call (bal (bal (Below.refl _ _) _) _)) c0 ce' H1.out).mono ?_; simp only [errM, reduceIte, Bool.false_eq_true]; rintro r w1 ⟨v1, rfl, hv1', hb1⟩; have hv1 := Lib.hid hv1'; obtain ⟨hc1, hf1⟩ := bcell hb1; have hz1 := hb1.size; have hz2 : W.heap.size + 1 < w1.heap.size := (by simp at hz1; omega); clear hv1'))
    obtain ⟨w4, hw4⟩ : ∃ x, x = w3.alloc (.cells #[.int .i64 ya, .int .i64 yb, .int .i64 yc, .int .u64 yd, .int .i64 ye, .int .i64 yf, .int .i64 yg, .int .i64 yh] 24) := ⟨_, rfl⟩
    rw [← hw4]
    have b4 : Below w3.heap.size w3 w4 := hw4 ▸ bal (Below.refl _ _) _
    have z3 : w3.heap.size < w4.heap.size := by rw [hw4]; simp
    have k2 := hb2.size
    have k3 := hb3.size
    have q0 : capAt ((W.alloc (.cells #[.int .i64 ca, .int .i64 cb, .int .i64 cc, .int .u64 cd, .int .i64 ce, .int .i64 cf, .int .i64 cg, .int .i64 ch] 24)).alloc (.cells #[.int .i64 da, .int .i64 db, .int .i64 dc, .int .u64 dd, .int .i64 de, .int .i64 df, .int .i64 dg, .int .i64 dh] 24)) W.heap.size ca cb cc cd ce cf cg ch := (capAt_new W _ _ _ _ _ _ _ _ _).alloc (by simp) _
    have p0 : capAt ((W.alloc (.cells #[.int .i64 ca, .int .i64 cb, .int .i64 cc, .int .u64 cd, .int .i64 ce, .int .i64 cf, .int .i64 cg, .int .i64 ch] 24)).alloc (.cells #[.int .i64 da, .int .i64 db, .int .i64 dc, .int .u64 dd, .int .i64 de, .int .i64 df, .int .i64 dg, .int .i64 dh] 24)) (W.heap.size + 1) da db dc dd de df dg dh := by
      have := capAt_new (W.alloc (.cells #[.int .i64 ca, .int .i64 cb, .int .i64 cc, .int .u64 cd, .int .i64 ce, .int .i64 cf, .int .i64 cg, .int .i64 ch] 24)) 24 da db dc dd de df dg dh
      rw [World.size_alloc] at this
      exact this
    have q4 := (((q0.call (by simp; omega) hb1).call (by omega) hb2).call (by omega) hb3).call (by omega) b4
    have p4 := (((p0.call (by simp) hb1).call (by omega) hb2).call (by omega) hb3).call (by omega) b4
    have y4 : capAt w4 w3.heap.size ya yb yc yd ye yf yg yh := by rw [hw4]; exact capAt_new _ _ _ _ _ _ _ _ _ _
    have e1 := ((hv1.out.go hb2).go hb3).go b4
    have e2 := (hv2.out.go hb3).go b4
    have B4 : Below W.heap.size W w4 := hw4 ▸ bal (bgo (bgo (bgo (bal (bal (Below.refl _ _) _) _) hb1) hb2) hb3) _
    have R1 := Lib.hid (fun w (hw : Kept w4.heap.size w4 w) => add_cells0 (cap_cells (q4.kept (by omega) hw)))
    have R2 := Lib.hid (fun w (hw : Kept w4.heap.size w4 w) => add_cells0 (cap_cells (p4.kept (by omega) hw)))
    have R3 := Lib.hid (fun w (hw : Kept w4.heap.size w4 w) => add_cells0 (cap_cells (y4.kept (by omega) hw)))
    have HTK := Lib.hid (fun w (hw : Kept w4.heap.size w4 w) => HT.out.call (hw.below (m := W.heap.size) (by omega) B4))
    have HE1 := Lib.hid (fun w (hw : Kept w4.heap.size w4 w) => e1.go hw.1)
    have HE2 := Lib.hid (fun w (hw : Kept w4.heap.size w4 w) => e2.go hw.1)
    have HB4 := Lib.hid B4
    have s4 : W.heap.size ≤ w4.heap.size := by omega
    clear hw4 b4 z3 k2 k3 q0 p0 q4 p4 y4 e1 e2 B4 hv1 hv2 hb1 hb2 hb3 hc1 hf1 hz1 hz2
    refine wp_region_kept w4.heap.size w4 (by kernel_rfl) (by kernel_rfl) (Kept.refl (Nat.le_refl _)) ?_
    repeat (first
      | go_big_quiet_skip
      | (go_big_quiet_want; first
        | (refine quiet_load_list 24 _ rfl ⟨W.heap.size, 0, none⟩ rfl _ R1.out _ Tryd.underlying24 rfl (by kernel_rfl) ?_; simp only [Act.put, List.setIfInBounds_toArray, List.set_cons_zero, List.set_cons_succ]; go_big_quiet_on)
        | (refine quiet_load_list 24 _ rfl ⟨W.heap.size + 1, 0, none⟩ rfl _ R2.out _ Tryd.underlying24 rfl (by kernel_rfl) ?_; simp only [Act.put, List.setIfInBounds_toArray, List.set_cons_zero, List.set_cons_succ]; go_big_quiet_on)
        | (refine quiet_load_list 24 _ rfl ⟨w3.heap.size, 0, none⟩ rfl _ R3.out _ Tryd.underlying24 rfl (by kernel_rfl) ?_; simp only [Act.put, List.setIfInBounds_toArray, List.set_cons_zero, List.set_cons_succ]; go_big_quiet_on)
        | (go_big_quiet_op; first
          | go_big_quiet_on
          | (refine ⟨_, fun _ _ => rfl, ?_⟩; go_big_quiet_on)
          | go_big_quiet_call ((intro hw; first
            | (go_at_call 9; refine (same_enc _ _ _ _ _ _ _ (HE1.out _ hw) (HE2.out _ hw)).mono ?_; rw [HS.out.yes.yes]; rintro e w5 ⟨rfl, q, rfl⟩; exact ⟨rfl, hw.drewN q⟩)
            | (go_at_call 11; refine (capMay ca cb cc cd ce cf cg ch _ (HTK.out _ hw) ce').mono ?_; rw [H1.out]; rintro e w5 ⟨rfl, hb5⟩; exact ⟨rfl, hw.call hb5⟩))))))
    refine wpQuiet_nil ?_
    intro w5 hw5
    have HB5 := Lib.hid (hw5.below (m := W.heap.size) s4 HB4.out)
    clear R1 R2 R3 HTK HE1 HE2 HS HQ HNQ hw5 HY
    go_wp2_with (first
      | (go_at_call 16; refine (decode_any _ (HT.out.call (bal HB5.out _)) (HL.out.call (bal HB5.out _)) w5.heap.size 2 u v HU.out HV.out (by decide) (by simp) (by simp) (by simp)).mono ?_; rw [HZ.out, HZE.out]; simp only [errM, reduceIte, Bool.false_eq_true]; rintro r w6 ⟨rfl, hb6⟩)
      | (go_at_call 7; refine (encode_z za zb zc zd ze zf zg zh u v _ _ (HT.out.call (bal (bgo (bal HB5.out _) hb6) _)) (HL.out.call (bal (bgo (bal HB5.out _) hb6) _)) z0 HZB.out HZN.out).mono ?_; rintro r w7 ⟨G7, rfl, hr7', hb7⟩; have hr7 := Lib.hid hr7'; clear hr7')
      | (go_at_call 9; (refine (same2_any _ G7 _ 0 2 2 2 (fun j => if j = 0 then u else v) (fun j => if j = 0 then u else v) (by omega) (Row2.cells (Row2.go hr7.out.yes (bal (Below.refl _ _) _))) (Row2.cells0 (row2_new _ _ _))).mono ?_; rw [eqN_self]; rintro r w8 ⟨rfl, q8, rfl⟩))
      | (go_at_call 14; refine (awake13 _ (HT.out.call (by repeat (first | with_reducible exact HB5.out | refine below_drewN ?_ _ | refine bal ?_ _ | refine bgo ?_ (by with_reducible assumption)))) (HL.out.call (by repeat (first | with_reducible exact HB5.out | refine below_drewN ?_ _ | refine bal ?_ _ | refine bgo ?_ (by with_reducible assumption))))).mono ?_; rintro r w9 ⟨rfl, hb9⟩))
    go_ret
    exact ⟨rfl, by repeat (first | with_reducible exact HB5.out | refine below_drewN ?_ _ | refine bal ?_ _ | refine bgo ?_ (by with_reducible assumption))⟩
theorem walk_capBack (a0 : CapX) (w0 : a0.Ok) (a1 : CapX) (w1 : a1.Ok) (a2 : Int) (w2 : (Lit.int .u64 a2).wf = true) (a3 : Int) (w3 : (Lit.int .u64 a3).wf = true) (W : World) (hL : LaidV_laid_math_bits_deBruijn64tab W ∧ LaidV_laid_seisin_cap_layout W) :
    Calls Tryd.prog 5 #[a0.val, a1.val, .int .u64 a2, .int .u64 a3] W fun e w' => e = .returned (.bool true) ∧ Below W.heap.size W w' := by
  obtain ⟨hT0, hLay⟩ := hL
  have hT : TabG W := hT0
  have hu : ∀ {x : Int}, (Lit.int .u64 x).wf = true → 0 ≤ x ∧ x ≤ 18446744073709551615 := by
    intro x h
    simp [Lit.wf, IntKind.min, IntKind.max, IntKind.signed, IntKind.bits] at h
    exact ⟨by omega, by omega⟩
  exact back_any _ _ _ _ _ _ _ _ _ _ _ _ _ _ _ _ a2 a3 _ _ _ _ W hT hLay w0.2.2.2.1.1 w1.2.2.2.1.1 w0.2.2.2.2.1.2 w1.2.2.2.2.1.2 (hu w2) (hu w3) rfl rfl rfl rfl
end Go.Proofs.YtoepbcaldlgnjaaDoor
