/- TreeParents, walked. -/
import Derived.Test.YtebgmphbkjpfcaaTrPa
namespace Go.Proofs.Ytebgmphbkjpfcaa
set_option linter.unusedVariables false
set_option linter.unusedSimpArgs false
open Go.ChangeShapes Go.WideShapes Go.ChangeAt Go.RowKit Go.Shelf

/-- What the way up has made of the world. -/
structure UpAt (w2 wr W : World) (l : List Nod) (i : Nat) (d : Int) (c : Nat) (v : Value) : Prop where
  up : ∃ (s : Nat) (U : List Nod) (xs : Nod), Up l i d c s U ∧ l[s]? = some xs ∧ Bx W wr.heap.size xs.o xs.i ∧ W.ownsRow (wr.heap.size + 1) 31 2 v c (slsC U)
  below : Below wr.heap.size wr W
theorem UpAt.next {w2 wr W w4 w5 : World} {l : List Nod} {i c j : Nat} {d : Int} {U : List Nod} {v v' : Value} {z : Nod} (hB : Below wr.heap.size wr W) (h1 : Below W.heap.size W w4) (hs : wr.heap.size < W.heap.size)
    (hrow : W.ownsRow (wr.heap.size + 1) 31 2 v c (slsC U)) (hz : l[j]? = some z) (hU : Up l i d (c + 1) j (U ++ [z])) (t : TypeId)
    (hown : w5.ownsRow (wr.heap.size + 1) 31 2 v' (c + 1) (slsC U ++ sltC z)) (hg : ((w4.alloc (slO z.o z.i)).alloc (.cells #[.int .i64 z.o, .int .i64 z.i] t)).grownBy w5 v.ownBlock) (hc0 : ∃ o i', W.heap[wr.heap.size]? = some (slO o i')) :
    UpAt w2 wr ((w5.setCell ⟨wr.heap.size, 0, none⟩ (.int .i64 z.o)).setCell ⟨wr.heap.size, 1, none⟩ (.int .i64 z.i)) l i d (c + 1) v' := by
  obtain ⟨o0, i0, hblk⟩ := hc0
  have sz := hg.size
  have sz4 := h1.size
  simp at sz
  have hvb : ∀ g, v.ownBlock = some g → wr.heap.size + 1 ≤ g := fun g e => (hrow.lt g e).1
  have hvb' : ∀ g, v'.ownBlock = some g → wr.heap.size + 1 ≤ g := fun g e => (hown.lt g e).1
  have e5 : ∀ k, k ≤ wr.heap.size → w5.heap[k]? = W.heap[k]? := fun k hk => by
    rw [hg.block k (by simp; omega) (fun e => by have := hvb k e.symm; omega), Below.heap_alloc _ _ _ (by simp; omega), Below.heap_alloc _ _ _ (by omega)]
    exact h1.block k (by omega)
  have hb5 := (e5 wr.heap.size (Nat.le_refl _)).trans hblk
  have hfin : ((w5.setCell ⟨wr.heap.size, 0, none⟩ (.int .i64 z.o)).setCell ⟨wr.heap.size, 1, none⟩ (.int .i64 z.i)).heap[wr.heap.size]? = some (slO z.o z.i) :=
    Go.heap_setCell_same _ _ _ _ _ _ (Go.heap_setCell_same _ _ _ _ _ _ hb5)
  refine ⟨⟨j, U ++ [z], z, hU, hz, ⟨?_, ?_, fun k => Go.frozen_of_row _ _ _ _ _ hfin, by simp; omega, hfin⟩, ?_⟩, ?_⟩
  · unfold World.cell?; simp only [hfin]; rfl
  · unfold World.cell?; simp only [hfin]; rfl
  · rw [slsC_snoc]
    refine own_block hown (fun g hg' => ?_)
    have := hvb' g hg'
    exact (Go.heap_setCell_other _ _ _ _ (by simp; omega)).trans (Go.heap_setCell_other _ _ _ _ (by simp; omega))
  · refine ⟨hg.os.trans (h1.os.trans hB.os), hg.tape.trans (h1.tape.trans hB.tape), hg.output.trans (h1.output.trans hB.output), by have := hB.size; simp; omega, fun k hk => ?_⟩
    exact (Go.heap_setCell_other _ _ _ _ (by simp; omega)).trans ((Go.heap_setCell_other _ _ _ _ (by simp; omega)).trans ((e5 k (by omega)).trans (hB.block k hk)))
theorem up_cells {V W w4 w5 : World} {c : Nat} {v : Value} {z xs : Nod} {L : List Value} {t : TypeId} (h1 : Below W.heap.size W w4) (hbx : Bx W V.heap.size xs.o xs.i) (hrow : W.ownsRow (V.heap.size + 1) 31 2 v c L)
    (hg : ((w4.alloc (slO z.o z.i)).alloc (.cells #[.int .i64 z.o, .int .i64 z.i] t)).grownBy w5 v.ownBlock) :
    w5.cell? ⟨w4.heap.size, 0, none⟩ = some (.int .i64 z.o) ∧ w5.cell? ⟨w4.heap.size, 1, none⟩ = some (.int .i64 z.i) ∧ Bx w5 V.heap.size xs.o xs.i ∧ w4.heap.size < w5.heap.size := by
  have sz := hg.size
  simp at sz
  have s4 := h1.size
  have hvb : ∀ g, v.ownBlock = some g → V.heap.size + 1 ≤ g ∧ g < W.heap.size := fun g e => hrow.lt g e
  have e1 : w5.heap[w4.heap.size]? = some (slO z.o z.i) := by
    rw [hg.block _ (by simp; omega) (fun e => by have := (hvb _ e.symm).2; omega), Below.heap_alloc _ _ _ (by simp)]
    exact World.alloc_heap_new _ _
  have hl := hbx.lt
  have e2 : w5.heap[V.heap.size]? = some (slO xs.o xs.i) := by
    rw [hg.block _ (by simp; omega) (fun e => by have := (hvb _ e.symm).1; omega), Below.heap_alloc _ _ _ (by simp; omega), Below.heap_alloc _ _ _ (by omega), h1.block _ hl]
    exact hbx.blk
  refine ⟨?_, ?_, ⟨?_, ?_, fun k => Go.frozen_of_row _ _ _ _ _ e2, by omega, e2⟩, by omega⟩
  · unfold World.cell?; simp only [e1]; rfl
  · unfold World.cell?; simp only [e1]; rfl
  · unfold World.cell?; simp only [e2]; rfl
  · unfold World.cell?; simp only [e2]; rfl
theorem news_at1 (w4 : World) (o : Obj) (cs : List Value) (t : TypeId) : ∀ j u, cs[j]? = some u → ((w4.alloc o).alloc (.cells cs.toArray t)).cell? ((⟨w4.heap.size + 1, 0, none⟩ : Addr).add j) = some u := by
  have := news_at (w4.alloc o) _ cs t rfl
  rwa [World.size_alloc] at this
theorem belowA_len (l : List Nod) (o i : Int) : (belowA l o i).length ≤ l.length := by
  unfold belowA
  split
  · simp
  · rw [List.length_take, List.length_drop]; omega
theorem four_at {w2 w4 : World} {g a b : Nat} {x y : Nod} (hg : g < w2.heap.size) (h1 : w2.cell? ⟨g, a * 3, none⟩ = some (.int .i64 y.o) ∧ w2.cell? ⟨g, a * 3 + 1, none⟩ = some (.int .i64 y.i) ∧ w2.cell? ⟨g, a * 3 + 2, none⟩ = some (.int .i64 y.d))
    (h2 : w2.cell? ⟨g, b * 3, none⟩ = some (.int .i64 x.o) ∧ w2.cell? ⟨g, b * 3 + 1, none⟩ = some (.int .i64 x.i) ∧ w2.cell? ⟨g, b * 3 + 2, none⟩ = some (.int .i64 x.d)) (hb : Below w2.heap.size w2 w4) :
    w4.cell? ⟨g, a * 3, none⟩ = some (.int .i64 y.o) ∧ w4.cell? ⟨g, a * 3 + 1, none⟩ = some (.int .i64 y.i) ∧ w4.cell? ⟨g, b * 3, none⟩ = some (.int .i64 x.o) ∧ w4.cell? ⟨g, b * 3 + 1, none⟩ = some (.int .i64 x.i) :=
  ⟨(hb.cell (p := ⟨g, _, none⟩) hg).trans h1.1, (hb.cell (p := ⟨g, _, none⟩) hg).trans h1.2.1, (hb.cell (p := ⟨g, _, none⟩) hg).trans h2.1, (hb.cell (p := ⟨g, _, none⟩) hg).trans h2.2.1⟩
theorem three_cells {w2 W : World} {g k : Nat} {x : Nod} (hg : g < w2.heap.size) (h : w2.cell? ⟨g, k * 3, none⟩ = some (.int .i64 x.o) ∧ w2.cell? ⟨g, k * 3 + 1, none⟩ = some (.int .i64 x.i) ∧ w2.cell? ⟨g, k * 3 + 2, none⟩ = some (.int .i64 x.d)) (hb : Below w2.heap.size w2 W) :
    W.cell? ⟨g, k * 3, none⟩ = some (.int .i64 x.o) ∧ W.cell? ⟨g, k * 3 + 1, none⟩ = some (.int .i64 x.i) ∧ W.cell? ⟨g, k * 3 + 2, none⟩ = some (.int .i64 x.d) :=
  ⟨(hb.cell (p := ⟨g, _, none⟩) hg).trans h.1, (hb.cell (p := ⟨g, _, none⟩) hg).trans h.2.1, (hb.cell (p := ⟨g, _, none⟩) hg).trans h.2.2⟩
set_option maxRecDepth 100000 in
set_option maxHeartbeats 1000000 in
theorem parents_any (q : Option Addr) (n c : Nat) (D : Nat → ActT) (W : World) (hn : n ≤ 60) (hD : ActsAt W q n D) :
    Calls Try.prog 6 #[.slice q n c] W fun e w' => e = .returned (.bool true) ∧ Below W.heap.size W w' := by
  have HD := Lib.hid hD
  have hn' : ¬ (n : Int) > 60 := by omega
  have HN3 : Hid (2 * n ≤ 200) := Lib.hid (by omega)
  have HN2 : Hid (n ≤ 100) := Lib.hid (by omega)
  have hdep := dep_play D n
  obtain ⟨i0, hi0, hz0, hz1, hz2⟩ := info_parts infoSl
  have HI0 := Lib.hid hi0
  clear hD hi0
  go_enter Try.func6, Try.ntmps6
  go_wp2_with (first
    | (go_at_call 24; with_reducible refine (played_ex _ q n c D HD.out HN2.out).mono ?_; rintro e w1 ⟨b, m, rfl, hS⟩; have HT := Lib.hid (hS.mono HN3.out); generalize playL D n = l at *; clear hS)
    | (go_at_call 16; with_reducible refine (HT.out.all (by decide)).mono ?_; rintro e w2 ⟨v, rfl, hN, hT, hK, hb⟩; have HW := Lib.hid hN; have HT := Lib.hid hT.st; clear hN hT hK hb))
  have hlen : l.length ≤ 200 := HT.out.len
  have HO := Lib.hid HT.out.once
  have HM := Lib.hid HT.out.small
  have HDEP := Lib.hid hdep
  have HB := Lib.hid HT.out.below
  clear hdep
  rcases HW.out with ⟨rfl, rfl⟩ | ⟨g, cp, rfl, hg, hcell⟩
  · clear HW HT
    go_wp2
    refine wp_loop_rounds 1 ?_
    rw [rounds_succ]
    go_wp2_with (go_at_call 10; refine (awake17 _).mono ?_; rintro e w3 ⟨rfl, hb3⟩)
    go_ret
    exact ⟨rfl, bgo HB.out hb3⟩
  · have HC := Lib.hid hcell
    have HG := Lib.hid hg
    clear hcell hg HW
    generalize hL : l.length = L at *
    have HL := Lib.hid hL
    clear hL
    go_loopw [5] (fun s wr => ∃ (i : Nat), i ≤ L ∧ s = .int .i64 i ∧ Hid (Below w2.heap.size w2 wr)) (fun s _ => L - (intOf s).toNat)
    case atStart => exact ⟨0, by omega, rfl, Lib.hid (Below.refl _ _)⟩
    case round =>
      obtain ⟨i, hi, rfl, HBR⟩ := hrel
      by_cases hlt : i < L
      · have hLL := HL.out
        obtain ⟨x, hx⟩ : ∃ x, l[i]? = some x := ⟨l[i]'(by omega), List.getElem?_eq_getElem _⟩
        obtain ⟨x0, x1, x2⟩ := three_cells HG.out (HC.out i x hx) HBR.out
        have hiL : (i : Int) < L := by omega
        have hxp := HDEP.out.pos i x hx
        have hxm := HM.out i x hx
        obtain ⟨dn, hdn⟩ := Int.eq_ofNat_of_zero_le hxp
        have hdn2 : dn ≤ 200 := by have := hxm.1; omega
        have HX := Lib.hid hx
        have HXI := Lib.hid hxm
        have HXD := Lib.hid hdn
        have hst := Up.start hx
        rw [hdn] at hst
        have HST := Lib.hid hst
        clear hLL hx hxp hxm hdn hst
        go_wp2
        clear x0 x1 x2
        have hup0 : UpAt w2 wr (wr.alloc (slO x.o x.i)) l i (dn : Int) 0 (.slice none 0 0) :=
          ⟨⟨i, [], x, HST.out, HX.out, Bx.fresh wr x.o x.i, World.ownsRow_nil _ _ _ _⟩, bal (Below.refl _ _) _⟩
        have HUP0 := Lib.hid hup0
        clear hup0
        obtain ⟨V, hV⟩ : ∃ V, V = wr := ⟨_, rfl⟩
        subst hV
        go_loopw [6, 8] (fun up kk wi => ∃ (cc : Nat), cc ≤ dn ∧ kk = .int .i64 (cc : Int) ∧ Hid (UpAt w2 V wi l i (dn : Int) cc up)) (fun _ kk _ => dn - (intOf kk).toNat)
        case atStart => exact ⟨0, by omega, rfl, HUP0⟩
        case round =>
          obtain ⟨cc, hcc, rfl, HUP⟩ := hrel
          obtain ⟨⟨s, U, xs, hU, hxs, hbx, hrow⟩, hbel⟩ := HUP.out
          have hb2i : Below w2.heap.size w2 wr := HBR.out.trans (hbel.mono HBR.out.size)
          obtain ⟨x0, x1, x2⟩ := three_cells HG.out (HC.out i x HX.out) hb2i
          rw [HXD.out] at x2
          have HSI := Lib.hid (HT.out.call hb2i)
          have HXS := Lib.hid (HM.out s xs hxs)
          obtain ⟨b0, b1, bz, bl, bb⟩ := hbx
          by_cases hcd : cc < dn
          · have hcd' : (cc : Int) < dn := by omega
            obtain ⟨j, z, hz, hpar, hU2⟩ := hU.step HO.out HDEP.out hxs hcd'
            have HPAR := Lib.hid hpar
            have HNX := Lib.hid (show _ ∧ _ ∧ _ ∧ _ ∧ _ from ⟨hbel, hrow, hz, hU2, bb⟩)
            have HBX : Hid (Bx wr V.heap.size xs.o xs.i) := Lib.hid ⟨b0, b1, bz, bl, bb⟩
            have hc2 : cc ≤ 1000 := by omega
            clear hU hxs hrow hbel hb2i hpar hz hU2 HUP bb
            go_wp2_with (first
              | (go_at_call 13; with_reducible refine (HSI.out.parent HXS.out.2.1 HXS.out.2.2 (by decide)).mono ?_; rw [HPAR.out]; simp only [parV, Option.map_some, Option.getD_some, Option.isSome_some]; rintro e w4 ⟨rfl, hb4⟩; have HB4 := Lib.hid hb4; have HR4 := Lib.hid (own_block HNX.out.2.1 (fun g hg => hb4.block g (HNX.out.2.1.lt g hg).2)); clear hb4)
              | (at_builtin; refine wpList_append_own _ rfl _ _ 37 rfl (V.heap.size + 1) 31 i0 (.agg #[.int .i64 0, .int .i64 0]) 2 16 Try.underlying37 HI0.out hz0 hz1 hz2 rfl (by decide) _ _ _ rfl ((HR4.out.alloc _).alloc _) ⟨w4.heap.size + 1, 0, none⟩ 1 1 (sltC z) rfl rfl (news_at1 w4 (slO z.o z.i) (sltC z) _) (by simp [Value.oneCell']) (by unfold maxLen; omega) (by omega) (by have := HB4.out.size; simp; omega) ?_; intro v' w5 hown hgrow _; obtain ⟨m0, m1, hbx5, hl5⟩ := up_cells HB4.out HBX.out HNX.out.2.1 hgrow; obtain ⟨n0, n1, nz, nl, nb⟩ := hbx5; have HOW := Lib.hid hown; have HGR := Lib.hid hgrow; clear hown hgrow nb))
            go_roundw
            case rel =>
              refine ⟨cc + 1, by omega, by go_num, Lib.hid ?_⟩
              obtain ⟨a1, a2, a3, a4, a5⟩ := HNX.out
              exact UpAt.next a1 HB4.out HBX.out.lt a2 a3 a4 _ HOW.out HGR.out ⟨_, _, a5⟩
            case measure => first | (simp [intOf]; done) | (simp [intOf]; omega)
          · have hce : cc = dn := by omega
            obtain ⟨hpn, hall⟩ := hU.stop HO.out HDEP.out hxs (by omega)
            have HPAR := Lib.hid hpn
            have HALL := Lib.hid hall
            have hul := hU.len
            rw [hce] at hul
            have hrow' := hrow
            rw [hce, ← hul] at hrow'
            have HROW := Lib.hid hrow'
            have HBEL := Lib.hid hb2i
            have HUL : Hid (U.length < 1000000) := Lib.hid (by omega)
            have hcd' : ¬ (cc : Int) < dn := by omega
            clear hU hxs hrow hbel hb2i hpn hall HUP bb hul hrow'
            go_wp2_with (first
              | (go_at_call 13; with_reducible refine (HSI.out.parent HXS.out.2.1 HXS.out.2.2 (by decide)).mono ?_; rw [HPAR.out]; simp only [parV, Option.map_none, Option.getD_none, Option.isSome_none]; rintro e w4 ⟨rfl, hb4⟩; have HB4 := Lib.hid hb4; clear hb4))
            obtain ⟨w5, hw5⟩ : ∃ w5, w5 = w4.alloc (slO 0 0) := ⟨_, rfl⟩
            rw [show w4.alloc (.cells #[.int .i64 0, .int .i64 0] 31) = w5 from hw5.symm]
            have hb5 : Below wr.heap.size wr w5 := hw5 ▸ HB4.out.alloc HB4.out.size _
            have HB5 := Lib.hid (HBEL.out.trans (hb5.mono HBEL.out.size))
            have HU5 := Lib.hid ((slots_row HROW.out).call hb5)
            clear hw5 hb5 b0 b1 bz bl x0 x1 x2
            go_loopw [13] (fun s wj => ∃ (kk : Nat), kk ≤ L ∧ s = .int .i64 (kk : Int) ∧ Hid (Below w5.heap.size w5 wj)) (fun s _ => L - (intOf s).toNat)
            case atStart => exact ⟨0, by omega, rfl, Lib.hid (Below.refl _ _)⟩
            case round =>
              obtain ⟨kk, hkk, rfl, HBJ⟩ := hrel
              by_cases hkl : kk < L
              · have hLL := HL.out
                obtain ⟨y, hy⟩ : ∃ y, l[kk]? = some y := ⟨l[kk]'(by omega), List.getElem?_eq_getElem _⟩
                have hb2j : Below w2.heap.size w2 wr := HB5.out.trans (HBJ.out.mono HB5.out.size)
                obtain ⟨x0, x1, x2⟩ := three_cells HG.out (HC.out i x HX.out) hb2j
                obtain ⟨y0, y1, y2⟩ := three_cells HG.out (HC.out kk y hy) hb2j
                have hkl' : (kk : Int) < L := by omega
                have HYI := Lib.hid (HM.out kk y hy)
                have HSJ := Lib.hid ((HT.out.call hb2j).call (Below.refl _ _).drew)
                have HUJ := Lib.hid ((HU5.out.call HBJ.out).call (Below.refl _ _).drew)
                have HB2J := Lib.hid hb2j
                have HYC := Lib.hid (HC.out kk y hy)
                have HBLN : Hid ((belowA l y.o y.i).length < 1000000) := Lib.hid (Nat.lt_of_le_of_lt (belowA_len l y.o y.i) (by omega))
                have heq := HALL.out kk y x hy HX.out
                obtain ⟨t, ht⟩ : ∃ t, (idx U y.o y.i).isSome = t := ⟨_, rfl⟩
                rw [ht] at heq
                have HT1 := Lib.hid heq
                have HT2 := Lib.hid ht
                clear hLL hy hb2j heq ht x2 y2
                go_wp2
                cases t
                all_goals
                  go_region_held3 (fun w' => w'.cell? ⟨g, kk * 3, none⟩ = some (.int .i64 y.o) ∧ w'.cell? ⟨g, kk * 3 + 1, none⟩ = some (.int .i64 y.i) ∧ w'.cell? ⟨g, i * 3, none⟩ = some (.int .i64 x.o) ∧ w'.cell? ⟨g, i * 3 + 1, none⟩ = some (.int .i64 x.i))
                    (first | exact ⟨c40, c41, c42, c43⟩ | exact ⟨c30, c31, c32, c33⟩ | exact ⟨c20, c21, c22, c23⟩ | exact ⟨y0, y1, x0, x1⟩)
                    (first
                      | (go_at_call 15; with_reducible refine (HSJ.out.belowf HYI.out.2.1 HYI.out.2.2 (by decide)).mono ?_; rintro e w6 ⟨v6, rfl, hv6, hb6⟩; have HV6 := Lib.hid hv6; have HB6 := Lib.hid hb6; obtain ⟨c20, c21, c22, c23⟩ := four_at HG.out HYC.out (HC.out i x HX.out) (HB2J.out.drew.trans (hb6.mono HB2J.out.drew.size)); clear hv6 hb6)
                      | (go_at_call 27; with_reducible refine (in_any _ v6 _ x.o x.i HV6.out HBLN.out).mono ?_; rw [HT1.out]; rintro e w7 ⟨rfl, hb7⟩; have HB7 := Lib.hid ((HB6.out.trans (hb7.mono HB6.out.size))); obtain ⟨c30, c31, c32, c33⟩ := four_at HG.out HYC.out (HC.out i x HX.out) (HB2J.out.drew.trans (HB7.out.mono HB2J.out.drew.size)); clear hb7)
                      | (go_at_call 27; with_reducible refine (in_any _ _ _ y.o y.i (HUJ.out.call HB7.out) HUL.out).mono ?_; rw [HT2.out]; rintro e w8 ⟨rfl, hb8⟩; have HB8 := Lib.hid ((HB7.out.trans (hb8.mono HB7.out.size))); obtain ⟨c40, c41, c42, c43⟩ := four_at HG.out HYC.out (HC.out i x HX.out) (HB2J.out.drew.trans (HB8.out.mono HB2J.out.drew.size)); clear hb8))
                  all_goals
                    go_wp2
                    go_roundw
                    case rel => exact ⟨kk + 1, by omega, by go_num, Lib.hid (HBJ.out.drew.trans (HB8.out.mono HBJ.out.drew.size))⟩
                    case measure => first | (simp [intOf]; done) | (simp [intOf]; omega)
              · have hkL : kk = L := by omega
                have hkl' : ¬ (kk : Int) < L := by omega
                go_wp2
                go_roundw
                case rel => exact ⟨i + 1, by omega, by go_num, Lib.hid (HB5.out.trans (HBJ.out.mono HB5.out.size))⟩
                case measure => first | (simp [intOf]; done) | (simp [intOf]; omega)
      · obtain rfl : i = L := by omega
        go_wp2_with (go_at_call 10; refine (awake17 _).mono ?_; rintro e w3 ⟨rfl, hb3⟩)
        go_ret
        exact ⟨rfl, bgo (HB.out.trans (HBR.out.mono HB.out.size)) hb3⟩
theorem walk_treeParents {W : World} (q : Option Addr) (n c : Nat) (hx : n ≤ c ∧ c ≤ maxLen ∧ ∃ D, ActsAt W q n D) :
    Calls Try.prog 6 #[.slice q n c] W fun e w' => e = .returned (.bool true) ∧ Below W.heap.size W w' := by
  obtain ⟨h1, h2, D, hD⟩ := hx
  unfold maxLen at h2
  by_cases hn : n ≤ 60
  · exact parents_any q n c D W hn hD
  · have hn' : (n : Int) > 60 := by omega
    clear hD
    go_enter Try.func6, Try.ntmps6
    go_wp2_with (go_at_call 10; refine (awake17 _).mono ?_; rintro e w3 ⟨rfl, hb3⟩)
    go_ret
    exact ⟨rfl, hb3⟩
end Go.Proofs.Ytebgmphbkjpfcaa
