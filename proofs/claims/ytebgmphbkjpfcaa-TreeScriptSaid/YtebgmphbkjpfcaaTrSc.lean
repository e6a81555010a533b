/- chapter 17's own answer: Parent, Below. -/
import Derived.Test.YtebgmphbkjpfcaaTrSb
namespace Go.Proofs.Ytebgmphbkjpfcaa
set_option linter.unusedVariables false
set_option linter.unusedSimpArgs false
open Go.ChangeShapes Go.WideShapes Go.ChangeAt Go.RowKit Go.Shelf

theorem cells_below {W W' : World} {g i : Nat} {y : Nod} (h : W.cell? ⟨g, i * 3, none⟩ = some (.int .i64 y.o) ∧ W.cell? ⟨g, i * 3 + 1, none⟩ = some (.int .i64 y.i) ∧ W.cell? ⟨g, i * 3 + 2, none⟩ = some (.int .i64 y.d)) (hb : Below W.heap.size W W') (hg : g < W.heap.size) :
    W'.cell? ⟨g, i * 3, none⟩ = some (.int .i64 y.o) ∧ W'.cell? ⟨g, i * 3 + 1, none⟩ = some (.int .i64 y.i) ∧ W'.cell? ⟨g, i * 3 + 2, none⟩ = some (.int .i64 y.d) :=
  ⟨(hb.cell (p := ⟨g, _, none⟩) hg).trans h.1, (hb.cell (p := ⟨g, _, none⟩) hg).trans h.2.1, (hb.cell (p := ⟨g, _, none⟩) hg).trans h.2.2⟩
theorem bx_two (w : World) (o i : Int) : Bx ((w.alloc (slO o i)).alloc (slO 0 0)) (w.heap.size + 1) 0 0 ∧ Bx ((w.alloc (slO o i)).alloc (slO 0 0)) w.heap.size o i := by
  have h := Bx.fresh (w.alloc (slO o i)) 0 0
  rw [World.size_alloc] at h
  exact ⟨h, (Bx.fresh w o i).call (bal (Below.refl _ _) _)⟩
set_option maxRecDepth 100000 in
set_option maxHeartbeats 1000000 in
theorem rparent_any (w : World) (rb : Nat) (v : Value) (l : List Nod) (o i : Int) (h : RefT w rb v l) :
    Calls Try.prog 14 #[.pointer (some ⟨rb, 0, none⟩), slV o i] w fun e w' => e = .returned (parV (parentA l o i)) ∧ Below w.heap.size w w' := by
  have hal : Below w.heap.size w ((w.alloc (slO o i)).alloc (slO 0 0)) := bal (bal (Below.refl _ _) _) _
  have HA := Lib.hid hal
  have HBX := Lib.hid (bx_two w o i)
  have HR := Lib.hid h
  cases hk : idx l o i with
  | none =>
    have hat : atI l o i = -1 := by unfold atI; rw [hk]
    have hpa : parentA l o i = none := by unfold parentA; rw [hk]; rfl
    have HAT := Lib.hid hat
    have HPA := Lib.hid hpa
    clear h hal hk hat hpa
    go_enter Try.func14, Try.ntmps14
    go_wp2_with (go_at_call 18; with_reducible refine (rat_any _ rb v l o i (HR.out.call HA.out)).mono ?_; rw [HAT.out]; rintro e w1 ⟨rfl, hb1⟩; have HB1 := Lib.hid (HA.out.trans (hb1.mono HA.out.size)); obtain ⟨d0, d1, dz, dl, db⟩ := HBX.out.1.call hb1; clear hb1 db)
    refine wp_loop_rounds 1 ?_
    rw [rounds_succ]
    go_wp2
    refine bodyPost_ret (v := parV none) (by simp [results, Try.results14, go_sem, parV, d0, d1]) rfl ⟨by rw [HPA.out], ?_⟩
    (repeat (first | with_reducible exact HB1.out | with_reducible refine Below.setCell ?_ (by first | (simp; done) | (simp; omega)) _))
  | some k =>
    obtain ⟨x, hx, hxs⟩ := idx_some hk
    have hkl := (List.getElem?_eq_some_iff.1 hx).1
    have hat : atI l o i = (k : Int) := by unfold atI; rw [hk]
    have hpa : parentA l o i = (parUp l x.d k).bind fun j => l[j]? := by
      unfold parentA; rw [hk]; simp only [Option.bind_some]
      rw [show ((l[k]?).map Nod.d).getD 0 = x.d by rw [hx]; rfl]
    have HAT := Lib.hid hat
    have HPA := Lib.hid hpa
    have hle := h.le
    obtain ⟨g, c, rfl, hg, hgr, hc⟩ := h.getg (by omega)
    have HC := Lib.hid hc
    have HX := Lib.hid hx
    have hblk := h.blk
    have hrl := (Array.getElem?_eq_some_iff.1 hblk).1
    obtain ⟨r0, rz⟩ := cell_box hblk
    have HR0 := Lib.hid r0
    have HRL := Lib.hid hrl
    have HG := Lib.hid hg
    clear h hal hk hat hpa hx hc hblk hrl r0 rz hg
    generalize hL : l.length = L at *
    have HL := Lib.hid hL
    clear hL
    have hkL : (k : Int) < L := by omega
    go_enter Try.func14, Try.ntmps14
    go_wp2_with (go_at_call 18; with_reducible refine (rat_any _ rb _ l o i (HR.out.call HA.out)).mono ?_; rw [HAT.out]; rintro e w1 ⟨rfl, hb1⟩; have HB1 := Lib.hid (HA.out.trans (hb1.mono HA.out.size)); have HBX1 := Lib.hid (HBX.out.1.call hb1); clear hb1)
    have q0 := (HB1.out.cell (p := ⟨rb, 0, none⟩) HRL.out).trans HR0.out
    have hc1 : ∀ (k : Nat) (x : Nod), l[k]? = some x → w1.cell? ⟨g, k * 3, none⟩ = some (.int .i64 x.o) ∧ w1.cell? ⟨g, k * 3 + 1, none⟩ = some (.int .i64 x.i) ∧ w1.cell? ⟨g, k * 3 + 2, none⟩ = some (.int .i64 x.d) := fun k x hx => three_cells HG.out (HC.out k x hx) (HB1.out)
    obtain ⟨x0, x1, x2⟩ := hc1 k x HX.out
    have HC1 := Lib.hid hc1
    clear x0 x1 hc1
    obtain ⟨d0, d1, dz, dl, db⟩ := HBX1.out
    clear db
    go_loopw [7] (fun t wr => ∃ (j z : Nat), j ≤ k ∧ t = .int .i64 ((j : Int) - 1) ∧ wr = w1.drewN z ∧ Hid (parUp l x.d k = parUp l x.d j)) (fun t _ => (intOf t + 1).toNat)
    case atStart => exact ⟨k, 0, by omega, by first | rfl | go_num, rfl, Lib.hid rfl⟩
    case round =>
      obtain ⟨j, z, hj, rfl, rfl, HP⟩ := hrel
      rcases j with _ | j
      · have hpn := HP.out
        rw [show parUp l x.d 0 = none from rfl] at hpn
        have HPN := Lib.hid hpn
        clear hpn
        go_wp2
        refine bodyPost_ret (v := parV none) (by simp [results, Try.results14, go_sem, parV, d0, d1]) rfl ⟨by rw [HPA.out, HPN.out]; rfl, ?_⟩
        (repeat (first | with_reducible exact HB1.out | with_reducible refine below_drewN ?_ _ | with_reducible refine Below.setCell ?_ (by first | (simp; done) | (simp; omega)) _))
      · rw [show ((j + 1 : Nat) : Int) - 1 = (j : Int) by omega]
        have hLL := HL.out
        obtain ⟨y, hy⟩ : ∃ y, l[j]? = some y := ⟨l[j]'(by omega), List.getElem?_eq_getElem _⟩
        obtain ⟨y0, y1, y2⟩ := HC1.out j y hy
        have hjL : (j : Int) < L := by omega
        have hj0 : (0 : Int) ≤ j := by omega
        have hstep : parUp l x.d (j + 1) = if y.d < x.d then some j else parUp l x.d j := by
          show (if ((l[j]?).map Nod.d).getD x.d < x.d then some j else parUp l x.d j) = _
          rw [hy]; rfl
        have HSTEP := Lib.hid hstep
        have HY := Lib.hid hy
        clear hLL hstep hy
        by_cases hd : y.d < x.d
        · have hd' : decide (y.d < x.d) = true := decide_eq_true hd
          have HND := Lib.hid hd
          have HZ : Hid (parUp l x.d k = some j) := Lib.hid (by rw [HP.out, HSTEP.out, if_pos HND.out])
          go_wp2
          go_quiet (fail)
          go_wp2
          refine bodyPost_ret (v := parV (some y)) (by simp [results, Try.results14, go_sem, parV, d0, d1]) rfl ⟨by rw [HPA.out, HZ.out]; simp [HY.out], ?_⟩
          (repeat (first | with_reducible exact HB1.out | with_reducible refine below_drewN ?_ _ | with_reducible refine Below.setCell ?_ (by first | (simp; done) | (simp; omega)) _))
        · have hd' : decide (y.d < x.d) = false := decide_eq_false hd
          have HND := Lib.hid hd
          go_wp2
          go_quiet (fail)
          go_wp2
          go_roundw
          case rel => exact ⟨j, z + nq, by omega, by first | rfl | go_num, by first | rfl | simp, Lib.hid (by rw [HP.out, HSTEP.out, if_neg (by have := HND.out; omega)])⟩
          case measure => first | (simp [intOf]; done) | (simp [intOf]; omega)
set_option maxRecDepth 100000 in
set_option maxHeartbeats 1000000 in
theorem rbelow_any (w : World) (rb : Nat) (v : Value) (l : List Nod) (o i : Int) (h : RefT w rb v l) :
    Calls Try.prog 20 #[.pointer (some ⟨rb, 0, none⟩), slV o i] w fun e w' => ∃ u, e = .returned u ∧ SlotsAt w' u (belowA l o i) ∧ Below w.heap.size w w' := by
  have hal : Below w.heap.size w (w.alloc (slO o i)) := bal (Below.refl _ _) _
  have HA := Lib.hid hal
  have HS := Lib.hid (Sl2.fresh w o i)
  have HR := Lib.hid h
  unfold belowA
  cases hk : idx l o i with
  | none =>
    have hat : atI l o i = -1 := by unfold atI; rw [hk]
    have HAT := Lib.hid hat
    clear h hal hk hat
    go_enter Try.func20, Try.ntmps20
    go_wp2_with (go_at_call 18; with_reducible refine (rat_any _ rb v l o i (HR.out.call HA.out)).mono ?_; rw [HAT.out]; rintro e w1 ⟨rfl, hb1⟩)
    go_ret
    exact ⟨_, rfl, .inl ⟨rfl, rfl⟩, HA.out.trans (hb1.mono HA.out.size)⟩
  | some k =>
    obtain ⟨x, hx, hxs⟩ := idx_some hk
    have hkl := (List.getElem?_eq_some_iff.1 hx).1
    have hat : atI l o i = (k : Int) := by unfold atI; rw [hk]
    have HAT := Lib.hid hat
    have hle := h.le
    obtain ⟨i0, hi0, hz0, hz1, hz2⟩ := info_parts infoSl
    have HI0 := Lib.hid hi0
    obtain ⟨g, c, rfl, hg, hgr, hc⟩ := h.getg (by omega)
    have HC := Lib.hid hc
    have HX := Lib.hid hx
    have HG := Lib.hid hg
    have hble := belowN_le hkl
    clear h hal hk hat hx hc hg hi0
    generalize hL : l.length = L at *
    have HL := Lib.hid hL
    clear hL
    go_enter Try.func20, Try.ntmps20
    go_wp2_with (go_at_call 18; with_reducible refine (rat_any _ rb _ l o i (HR.out.call HA.out)).mono ?_; rw [HAT.out]; rintro e w1 ⟨rfl, hb1⟩; have HB1 := Lib.hid (HA.out.trans (hb1.mono HA.out.size)); clear hb1)
    have hkx : ¬ (k : Int) < 0 := by omega
    go_loopw [6, 7] (fun u t wr => ∃ (cc : Nat), cc ≤ belowN l k ∧ t = .int .i64 ((k + 1 + cc : Nat) : Int) ∧ Hid (wr.ownsRow w.heap.size 31 2 u cc (slsC ((l.drop (k + 1)).take cc)) ∧ Below w.heap.size w wr)) (fun _ t _ => L - (intOf t).toNat)
    case atStart => exact ⟨0, by omega, by first | rfl | go_num, Lib.hid ⟨World.ownsRow_nil _ _ _ _, HB1.out⟩⟩
    case round =>
      obtain ⟨cc, hcc, rfl, HST⟩ := hrel
      have HRW := Lib.hid (HR.out.call HST.out.2)
      by_cases hlt : cc < belowN l k
      · have hLL := HL.out
        obtain ⟨y, hy, _⟩ := belowN_in HX.out hlt
        have HCW := Lib.hid (three_cells HG.out (HC.out _ y hy) HST.out.2)
        have HTK := Lib.hid (show (l.drop (k + 1)).take (cc + 1) = (l.drop (k + 1)).take cc ++ [y] by rw [List.take_add_one, List.getElem?_drop, hy]; rfl)
        have hrl := (Array.getElem?_eq_some_iff.1 HRW.out.blk).1
        obtain ⟨i, hi⟩ : ∃ i, k + 1 + cc = i := ⟨_, rfl⟩
        rw [hi] at HCW
        have HI := Lib.hid hi
        have hiL : (i : Int) < L := by omega
        have hend : ((i : Int)) < ((k + 1 + belowN l k : Nat) : Int) := by omega
        have hcb : cc ≤ 1000 := by omega
        rw [hi]
        clear hLL hy hi hrl
        go_wp2_with (first
          | (go_at_call 40; with_reducible refine (rend_any _ rb _ l k x HRW.out HX.out).mono ?_; rintro e w2 ⟨rfl, hb2⟩; have HB2 := Lib.hid hb2; obtain ⟨r0, rz⟩ := cell_box (HRW.out.call hb2).blk; obtain ⟨x0, x1, x2⟩ := cells_below HCW.out hb2 (Nat.lt_of_lt_of_le HG.out HST.out.2.size); have HRO := Lib.hid (own_block HST.out.1 (fun g hg => hb2.block g (HST.out.1.lt g hg).2)); clear hb2 rz)
          | (at_builtin; refine wpList_append_own _ rfl _ _ 37 rfl w.heap.size 31 i0 (.agg #[.int .i64 0, .int .i64 0]) 2 16 Try.underlying37 HI0.out hz0 hz1 hz2 rfl (by decide) _ _ _ rfl (HRO.out.alloc _) ⟨w2.heap.size, 0, none⟩ 1 1 (sltC y) rfl rfl (news_at w2 _ (sltC y) _ rfl) (by simp [Value.oneCell']) (by unfold maxLen; omega) (by omega) (by have := HST.out.2.size; have := HB2.out.size; simp; omega) ?_; intro u' w3 hown hgrow _; have HOW := Lib.hid hown; have HGR := Lib.hid hgrow; clear hown hgrow))
        go_roundw
        case rel =>
          refine ⟨cc + 1, by omega, by
            have := HI.out
            have e : ((k + 1 + (cc + 1) : Nat) : Int) = (i : Int) + 1 := by omega
            rw [e], Lib.hid ⟨by rw [HTK.out, slsC_snoc]; exact HOW.out, ?_⟩⟩
          have hb3 := HST.out.2.trans (HB2.out.mono HST.out.2.size)
          exact (hb3.alloc hb3.size _).grown HGR.out (by have := hb3.size; simp; omega) (fun j ej => (HRO.out.lt j ej).1)
        case measure => first | (simp [intOf]; done) | (simp [intOf]; omega)
      · have hce : cc = belowN l k := by omega
        have hHL := HL.out
        have hlenb : ((l.drop (k + 1)).take cc).length = cc := by rw [List.length_take, List.length_drop]; omega
        have hrow := HST.out.1
        rw [hce] at hrow hlenb
        rw [← hlenb] at hrow
        have hsl := slots_row (l := (l.drop (k + 1)).take (belowN l k)) (by rw [hlenb] at hrow ⊢; exact hrow)
        have HSL := Lib.hid hsl
        have hend : ¬ ((k + 1 + cc : Nat) : Int) < ((k + 1 + belowN l k : Nat) : Int) := by omega
        clear hHL hlenb hrow hsl
        go_wp2_with (go_at_call 40; with_reducible refine (rend_any _ rb _ l k x HRW.out HX.out).mono ?_; rintro e w2 ⟨rfl, hb2⟩; have HB2 := Lib.hid hb2; clear hb2)
        go_ret
        exact ⟨_, rfl, HSL.out.call HB2.out, HST.out.2.trans (HB2.out.mono HST.out.2.size)⟩
end Go.Proofs.Ytebgmphbkjpfcaa
