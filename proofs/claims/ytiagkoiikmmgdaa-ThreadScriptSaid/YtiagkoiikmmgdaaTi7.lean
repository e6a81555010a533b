/- ThreadScript: package thread and the own answer, act by act. -/
import Derived.Test.YtiagkoiikmmgdaaTi6
import Derived.Deep.RegionHeld3
namespace Go.Proofs.Ytiagkoiikmmgdaa
set_option linter.unusedVariables false
set_option linter.unusedSimpArgs false
open Go.ChangeShapes Go.WideShapes Go.ChangeAt Go.RowKit Go.Shelf
open TabT

/-- All that a round holds behind All. -/
structure SvT (W w7 w : World) (b rb xB gB hB : Nat) (L : List Th) (x : ActT) (y : Th) (ra la : Option Addr) (rc lc : Nat) : Prop where
  both : Both W w b rb L
  xa : XA w xB x
  x1 : XT w gB y
  x2 : XT w hB y
  c : w.cell? ⟨rb, 0, none⟩ = some (.slice la L.length lc)
  lt : rb < w.heap.size
  li : ThsIs w la L
  row : w.ownsRow w7.heap.size 35 24 (.slice ra L.length rc) L.length (thsC L)
  bl : Below w7.heap.size w7 w
theorem SvT.call {W w7 w w' : World} {b rb xB gB hB : Nat} {L : List Th} {x : ActT} {y : Th} {ra la : Option Addr} {rc lc : Nat} (h : SvT W w7 w b rb xB gB hB L x y ra la rc lc) (hb : Below w.heap.size w w') : SvT W w7 w' b rb xB gB hB L x y ra la rc lc :=
  ⟨h.both.call hb, h.xa.call hb, h.x1.call hb, h.x2.call hb, (hb.cell (p := ⟨rb, 0, none⟩) h.lt).trans h.c, Nat.lt_of_lt_of_le h.lt hb.size, h.li.call hb, row_of_block h.row (fun g hg => hb.block g (h.row.lt g hg).2), h.bl.trans (hb.mono h.bl.size)⟩
theorem SvT.held {W w7 w : World} {b rb xB gB hB : Nat} {L : List Th} {x : ActT} {y : Th} {ra la : Option Addr} {rc lc : Nat} (h : SvT W w7 w b rb xB gB hB L x y ra la rc lc) : XA w xB x ∧ XT w gB y ∧ XT w hB y ∧ w.cell? ⟨rb, 0, none⟩ = some (.slice la L.length lc) := ⟨h.xa, h.x1, h.x2, h.c⟩
attribute [local go_sem ↓] neT
attribute [-go_sem] loadVar
set_option maxRecDepth 100000 in
set_option maxHeartbeats 4000000 in
theorem script_any (q : Option Addr) (n c : Nat) (D : Nat → ActT) (who : Int) (W : World) (hn : n ≤ 120) (hD : ActsAt W q n D) :
    Calls Try.prog 3 #[.slice q n c, .int .i64 who] W fun e w' => e = .returned (.bool true) ∧ Below W.heap.size W w' := by
  have HD := Lib.hid hD
  have hn' : ¬ (n : Int) > 120 := by omega
  clear hD
  go_enter Try.func3, Try.ntmps3
  go_wp2_with (go_at_call 7; refine (tnew_any _).mono ?_; rintro e w1 ⟨rfl, ha1, hb1⟩; have HP := Lib.hid (both_start ha1 hb1); clear ha1 hb1)
  obtain ⟨b, hb⟩ : ∃ b, b = W.heap.size := ⟨_, rfl⟩
  obtain ⟨rb, hrb⟩ : ∃ b, b = w1.heap.size := ⟨_, rfl⟩
  rw [← hb, ← hrb] at HP ⊢
  clear hb hrb
  go_loopw [7] (fun i wr => ∃ t : Nat, t ≤ n ∧ i = .int .i64 t ∧ Hid (Both W wr b rb (playT D t))) (fun i _ => n - (intOf i).toNat)
  case atStart => exact ⟨0, Nat.zero_le _, rfl, HP⟩
  case round =>
    obtain ⟨t, ht, rfl, HO⟩ := hrel
    clear HP
    by_cases hlt : t < n
    · have hltI : (t : Int) < n := by omega
      obtain ⟨aB, aO, hq, hcs⟩ := HD.out
      obtain ⟨rfl, hal⟩ := hq (by omega)
      obtain ⟨hrow, hok⟩ := hcs t hlt
      have hln := play_len D t
      have hln1 := play_len D (t + 1)
      have hbl := HO.out.bl
      have HT : Hid (wr.rangeAt aB (aO + t * 26) (D t).cells) := Lib.hid (fun j v hj => (hbl.cell (p := ⟨aB, _, none⟩) hal).trans (hrow j v hj))
      have HST := Lib.hid (show playT D (t + 1) = stepT (playT D t) (D t) from rfl)
      have HLN := Lib.hid (show (playT D t).length < 1000000 by omega)
      have HLN1 := Lib.hid (show (playT D (t + 1)).length < 1000000 ∧ (playT D (t + 1)).length ≤ 1000 by omega)
      clear hq hcs hrow hok hbl hal hln hln1
      obtain ⟨L2, hL2⟩ : ∃ z, z = playT D (t + 1) := ⟨_, rfl⟩
      rw [← hL2] at HST HLN1
      have HL2' := Lib.hid hL2
      clear hL2
      generalize playT D t = L at *
      generalize D t = x at *
      go_upto_region 11 with (first
        | (refine wpList_load_mid rfl 37 _ rfl aB (aO + t * 26) rfl x.cells _ HT.out Try.underlying37 rfl (by kernel_rfl) ?_)
        | (refine wpList_store_row rfl 37 _ _ rfl wr.heap.size x.cells.toArray rfl rfl _ _ (heap_alloc_new wr _) (by kernel_rfl) rfl (act_one x) ?_))
      rw [alloc_setRow]
      have HBS := Lib.hid (HO.out.beside (.cells x.cells.toArray 37))
      obtain ⟨w1, hw1⟩ : ∃ z, z = wr.alloc (.cells x.cells.toArray 37) := ⟨_, rfl⟩
      have HXA : Hid (XA w1 wr.heap.size x) := Lib.hid (by rw [hw1]; exact heap_alloc_new wr _)
      rw [← hw1] at HBS ⊢
      clear hw1 HT HO
      generalize wr.heap.size = xB at *
      have q0 := run_load_int HXA.out.d
      obtain ⟨d, id, th⟩ := x
      simp only [] at q0
      have hl1 : ∀ w', XA w' xB ⟨d, id, th⟩ → (loadVar 3 ⟨xB, 1, none⟩).run Try.prog w' = .ok (.int .i64 id) w' := fun w' h => run_load_int h.id
      have hl2 : ∀ w', XA w' xB ⟨d, id, th⟩ → (loadVar 35 ⟨xB, 2, none⟩).run Try.prog w' = .ok (.agg th.cells.toArray) w' := fun w' h => run_load_th h.range
      by_cases h0 : d = 0
      · subst h0
        rcases Nat.lt_or_ge 0 1 with hz | hz
        · have HSTE : Hid (L2 = addTL L id) := Lib.hid (HST.out.trans (by unfold stepT; rw [if_pos rfl]))
          go_upto_region 13 with (fail)
          have HXd := Lib.hid (show XA w1.drew xB ⟨0, id, th⟩ from HXA.out)
          have HBd := Lib.hid (HBS.out.call (Below.refl _ _).drew)
          have HX := HXd
          clear hl2 q0
          have hl2 := hl1
          go_region_held3 (fun w' => XA w' xB ⟨0, id, th⟩)
            (exact HX.out)
            (first
              | (go_at_call 8; (with_reducible refine (num_any _ _).mono ?_); rintro e w3 ⟨rfl, rfl⟩)
              | (go_at_call 10; (with_reducible refine (HH.out.addR HLN.out).mono ?_); rintro e w3 ⟨rfl, hs3, hk3⟩; have HB := Lib.hid hs3.both; have HX : Hid (XA _ xB ⟨0, id, th⟩) := Lib.hid ((hk3 xB rfl).trans HX.out); clear hs3 hk3)
              | (go_at_call 9; (with_reducible refine (HBd.out.addA HLN.out id).mono ?_); rintro e w2 ⟨rfl, hh2, hk2⟩; have HH := Lib.hid hh2; have HX : Hid (XA _ xB ⟨0, id, th⟩) := Lib.hid ((hk2 xB rfl).trans HX.out); clear hh2 hk2))
          rw [← HSTE.out] at HB
          go_upto_region 18 with (fail)
          have HL1 := Lib.hid hl1
          clear hl1 hl2
          have q1 := HL1.out _ HX.out
          obtain ⟨y, hy⟩ : ∃ y, obT (getT L2 id) = y := ⟨_, rfl⟩
          obtain ⟨gs, hgs⟩ : ∃ z, (getT L2 id).isSome = z := ⟨_, rfl⟩
          have HY := Lib.hid hy
          have HGS := Lib.hid hgs
          clear hy hgs
          go_upto_region 19 with (first
            | (go_at_call 17; (with_reducible refine (HB.out.get id).mono ?_); rw [HY.out, HGS.out]; rintro e w4 ⟨rfl, hb4⟩; have HB4 := Lib.hid (HB.out.call hb4); have HX4 := Lib.hid (HX.out.call hb4))
            | (refine wpList_store_row rfl 35 _ _ rfl w4.heap.size y.cells.toArray rfl rfl _ _ (heap_alloc_new w4 _) (by kernel_rfl) rfl (th_one' _) ?_))
          rw [alloc_setRow]
          obtain ⟨w5, hw5⟩ : ∃ z, z = w4.alloc (.cells y.cells.toArray 35) := ⟨_, rfl⟩
          rw [← hw5]
          have HG5 : Hid (XT w5 w4.heap.size y) := Lib.hid (by rw [hw5]; exact heap_alloc_new w4 _)
          have h45 : Below w4.heap.size w4 w5 := by rw [hw5]; exact bal (Below.refl _ _) _
          have HB5 := Lib.hid (HB4.out.call h45)
          have HX5 := Lib.hid (HX4.out.call h45)
          clear hw5 h45 q1 hb4
          generalize w4.heap.size = gB at *
          have q1 := HL1.out _ HX5.out
          go_upto_region 20 with (first
            | (go_at_call 18; (with_reducible refine (HB5.out.rget id HLN1.out.1).mono ?_); rw [HY.out, HGS.out]; rintro e w6 ⟨rfl, hb6⟩; have HB6 := Lib.hid (HB5.out.call hb6); have HX6 := Lib.hid (HX5.out.call hb6); have HG6 := Lib.hid (HG5.out.call hb6))
            | (refine wpList_store_row rfl 35 _ _ rfl w6.heap.size y.cells.toArray rfl rfl _ _ (heap_alloc_new w6 _) (by kernel_rfl) rfl (th_one' _) ?_))
          rw [alloc_setRow]
          obtain ⟨w7, hw7⟩ : ∃ z, z = w6.alloc (.cells y.cells.toArray 35) := ⟨_, rfl⟩
          rw [← hw7]
          have HH7 : Hid (XT w7 w6.heap.size y) := Lib.hid (by rw [hw7]; exact heap_alloc_new w6 _)
          have h67 : Below w6.heap.size w6 w7 := by rw [hw7]; exact bal (Below.refl _ _) _
          have HB7 := Lib.hid (HB6.out.call h67)
          have HX7 := Lib.hid (HX6.out.call h67)
          have HG7 := Lib.hid (HG6.out.call h67)
          clear hw7 h67 q1 hb6 HB4 HB5 HB6 HX4 HX5 HX6 HG5 HG6 HB HX
          generalize w6.heap.size = hB at *
          go_upto_region 21 with (go_at_call 19; (with_reducible refine (HB7.out.all HLN1.out.1).mono ?_); rintro e w8 ⟨r, rfl, hR, hb8⟩; have HR := Lib.hid hR; have HB8 := Lib.hid hb8; clear hR hb8)
          obtain ⟨ra, rc, rfl, hrc, hra⟩ := ths_of HR.out
          clear hra hrc
          obtain ⟨la, lc, hli1, hli2, hli3⟩ := (HB7.out.call HB8.out).list
          have HS8 : Hid (SvT W w7 w8 b rb xB gB hB L2 ⟨0, id, th⟩ y ra la rc lc) := Lib.hid ⟨HB7.out.call HB8.out, HX7.out.call HB8.out, HG7.out.call HB8.out, HH7.out.call HB8.out, hli1, hli3, hli2, HR.out, HB8.out⟩
          have HSV := Lib.hid (HS8.out.call (Below.refl _ _).drew)
          clear hli1 hli2 hli3 HR HB8 HX7 HG7 HH7
          have hl1 := HL1.out
          have hy1 : ∀ w', XT w' gB y → (loadVar 35 ⟨gB, 0, none⟩).run Try.prog w' = .ok (.agg y.cells.toArray) w' := fun w' h => run_load_th h.range
          have hy2 : ∀ w', XT w' hB y → (loadVar 35 ⟨hB, 0, none⟩).run Try.prog w' = .ok (.agg y.cells.toArray) w' := fun w' h => run_load_th h.range
          have hls : ∀ w', w'.cell? ⟨rb, 0, none⟩ = some (.slice la L2.length lc) → (loadVar 27 ⟨rb, 0, none⟩).run Try.prog w' = .ok (.slice la L2.length lc) w' := fun w' h => run_load_sl h
          generalize hs1 : srvT L2 who = s1 at *
          generalize hs2 : srvT L2 id = s2 at *
          have HS1 := Lib.hid hs1
          have HS2 := Lib.hid hs2
          clear hs1 hs2
          go_region_held3 (fun w' => XA w' xB ⟨0, id, th⟩ ∧ XT w' gB y ∧ XT w' hB y ∧ w'.cell? ⟨rb, 0, none⟩ = some (.slice la L2.length lc))
            (exact HSV.out.held)
            (first
              | (go_at_call 20; (first | ((with_reducible refine (HSV.out.both.srv who HLN1.out.1).mono ?_); rw [HS1.out]) | ((with_reducible refine (HSV.out.both.srv id HLN1.out.1).mono ?_); rw [HS2.out])); rintro e w9 ⟨rfl, hb9⟩; have HSV := Lib.hid (HSV.out.call hb9))
              | (go_at_call 21; (first | ((with_reducible refine (HSV.out.both.rsrv who HLN1.out.1).mono ?_); rw [HS1.out]) | ((with_reducible refine (HSV.out.both.rsrv id HLN1.out.1).mono ?_); rw [HS2.out])); rintro e w9 ⟨rfl, rfl⟩)
              | (go_at_call 22; (with_reducible refine (same_ths _ _ _ _ _ L2 (ths_is HSV.out.row) HSV.out.li HLN1.out.1).mono ?_); rintro e w9 ⟨rfl, j9, rfl⟩; have HSV := Lib.hid (HSV.out.call (below_drewN (Below.refl _ _) j9))))
          all_goals
            go_wp2_with (go_at_call 23; (with_reducible refine (over_ths _ _ L2.length (thsC L2) _ HSV.out.row HLN1.out.2).mono ?_); rintro e w10 ⟨⟨r10, rfl⟩, hg10⟩; have HB10 := Lib.hid (grown_below (n := w7.heap.size) hg10 (fun k e => (HSV.out.row.lt k e).1) HSV.out.bl.size))
            go_roundw
            case rel => exact ⟨t + 1, by omega, by go_num, Lib.hid (HL2'.out ▸ HB7.out.call (HSV.out.bl.trans HB10.out))⟩
            case measure => first | (simp [intOf]; done) | (simp [intOf]; omega)
        · omega
      · by_cases h1 : d = 1
        · subst h1
          rcases Nat.lt_or_ge 0 1 with hz | hz
          · have HSTE : Hid (L2 = dropTL L id) := Lib.hid (HST.out.trans (by unfold stepT; rw [if_neg (show ¬ (1 : Int) = 0 by decide), if_pos rfl]))
            go_upto_region 15 with (fail)
            have HXd := Lib.hid (show XA w1.drew xB ⟨1, id, th⟩ from HXA.out)
            have HBd := Lib.hid (HBS.out.call (Below.refl _ _).drew)
            have HX := HXd
            clear hl2 q0
            have hl2 := hl1
            go_region_held3 (fun w' => XA w' xB ⟨1, id, th⟩)
              (exact HX.out)
              (first
                | (go_at_call 8; (with_reducible refine (num_any _ _).mono ?_); rintro e w3 ⟨rfl, rfl⟩)
                | (go_at_call 12; (with_reducible refine (HH.out.dropR HLN.out).mono ?_); rintro e w3 ⟨rfl, hs3, hk3⟩; have HB := Lib.hid hs3.both; have HX : Hid (XA _ xB ⟨1, id, th⟩) := Lib.hid ((hk3 xB rfl).trans HX.out); clear hs3 hk3)
                | (go_at_call 11; (with_reducible refine (HBd.out.dropA id).mono ?_); rintro e w2 ⟨rfl, hh2, hk2⟩; have HH := Lib.hid hh2; have HX : Hid (XA _ xB ⟨1, id, th⟩) := Lib.hid ((hk2 xB rfl).trans HX.out); clear hh2 hk2))
            rw [← HSTE.out] at HB
            go_upto_region 18 with (fail)
            have HL1 := Lib.hid hl1
            clear hl1 hl2
            have q1 := HL1.out _ HX.out
            obtain ⟨y, hy⟩ : ∃ y, obT (getT L2 id) = y := ⟨_, rfl⟩
            obtain ⟨gs, hgs⟩ : ∃ z, (getT L2 id).isSome = z := ⟨_, rfl⟩
            have HY := Lib.hid hy
            have HGS := Lib.hid hgs
            clear hy hgs
            go_upto_region 19 with (first
              | (go_at_call 17; (with_reducible refine (HB.out.get id).mono ?_); rw [HY.out, HGS.out]; rintro e w4 ⟨rfl, hb4⟩; have HB4 := Lib.hid (HB.out.call hb4); have HX4 := Lib.hid (HX.out.call hb4))
              | (refine wpList_store_row rfl 35 _ _ rfl w4.heap.size y.cells.toArray rfl rfl _ _ (heap_alloc_new w4 _) (by kernel_rfl) rfl (th_one' _) ?_))
            rw [alloc_setRow]
            obtain ⟨w5, hw5⟩ : ∃ z, z = w4.alloc (.cells y.cells.toArray 35) := ⟨_, rfl⟩
            rw [← hw5]
            have HG5 : Hid (XT w5 w4.heap.size y) := Lib.hid (by rw [hw5]; exact heap_alloc_new w4 _)
            have h45 : Below w4.heap.size w4 w5 := by rw [hw5]; exact bal (Below.refl _ _) _
            have HB5 := Lib.hid (HB4.out.call h45)
            have HX5 := Lib.hid (HX4.out.call h45)
            clear hw5 h45 q1 hb4
            generalize w4.heap.size = gB at *
            have q1 := HL1.out _ HX5.out
            go_upto_region 20 with (first
              | (go_at_call 18; (with_reducible refine (HB5.out.rget id HLN1.out.1).mono ?_); rw [HY.out, HGS.out]; rintro e w6 ⟨rfl, hb6⟩; have HB6 := Lib.hid (HB5.out.call hb6); have HX6 := Lib.hid (HX5.out.call hb6); have HG6 := Lib.hid (HG5.out.call hb6))
              | (refine wpList_store_row rfl 35 _ _ rfl w6.heap.size y.cells.toArray rfl rfl _ _ (heap_alloc_new w6 _) (by kernel_rfl) rfl (th_one' _) ?_))
            rw [alloc_setRow]
            obtain ⟨w7, hw7⟩ : ∃ z, z = w6.alloc (.cells y.cells.toArray 35) := ⟨_, rfl⟩
            rw [← hw7]
            have HH7 : Hid (XT w7 w6.heap.size y) := Lib.hid (by rw [hw7]; exact heap_alloc_new w6 _)
            have h67 : Below w6.heap.size w6 w7 := by rw [hw7]; exact bal (Below.refl _ _) _
            have HB7 := Lib.hid (HB6.out.call h67)
            have HX7 := Lib.hid (HX6.out.call h67)
            have HG7 := Lib.hid (HG6.out.call h67)
            clear hw7 h67 q1 hb6 HB4 HB5 HB6 HX4 HX5 HX6 HG5 HG6 HB HX
            generalize w6.heap.size = hB at *
            go_upto_region 21 with (go_at_call 19; (with_reducible refine (HB7.out.all HLN1.out.1).mono ?_); rintro e w8 ⟨r, rfl, hR, hb8⟩; have HR := Lib.hid hR; have HB8 := Lib.hid hb8; clear hR hb8)
            obtain ⟨ra, rc, rfl, hrc, hra⟩ := ths_of HR.out
            clear hra hrc
            obtain ⟨la, lc, hli1, hli2, hli3⟩ := (HB7.out.call HB8.out).list
            have HS8 : Hid (SvT W w7 w8 b rb xB gB hB L2 ⟨1, id, th⟩ y ra la rc lc) := Lib.hid ⟨HB7.out.call HB8.out, HX7.out.call HB8.out, HG7.out.call HB8.out, HH7.out.call HB8.out, hli1, hli3, hli2, HR.out, HB8.out⟩
            have HSV := Lib.hid (HS8.out.call (Below.refl _ _).drew)
            clear hli1 hli2 hli3 HR HB8 HX7 HG7 HH7
            have hl1 := HL1.out
            have hy1 : ∀ w', XT w' gB y → (loadVar 35 ⟨gB, 0, none⟩).run Try.prog w' = .ok (.agg y.cells.toArray) w' := fun w' h => run_load_th h.range
            have hy2 : ∀ w', XT w' hB y → (loadVar 35 ⟨hB, 0, none⟩).run Try.prog w' = .ok (.agg y.cells.toArray) w' := fun w' h => run_load_th h.range
            have hls : ∀ w', w'.cell? ⟨rb, 0, none⟩ = some (.slice la L2.length lc) → (loadVar 27 ⟨rb, 0, none⟩).run Try.prog w' = .ok (.slice la L2.length lc) w' := fun w' h => run_load_sl h
            generalize hs1 : srvT L2 who = s1 at *
            generalize hs2 : srvT L2 id = s2 at *
            have HS1 := Lib.hid hs1
            have HS2 := Lib.hid hs2
            clear hs1 hs2
            go_region_held3 (fun w' => XA w' xB ⟨1, id, th⟩ ∧ XT w' gB y ∧ XT w' hB y ∧ w'.cell? ⟨rb, 0, none⟩ = some (.slice la L2.length lc))
              (exact HSV.out.held)
              (first
                | (go_at_call 20; (first | ((with_reducible refine (HSV.out.both.srv who HLN1.out.1).mono ?_); rw [HS1.out]) | ((with_reducible refine (HSV.out.both.srv id HLN1.out.1).mono ?_); rw [HS2.out])); rintro e w9 ⟨rfl, hb9⟩; have HSV := Lib.hid (HSV.out.call hb9))
                | (go_at_call 21; (first | ((with_reducible refine (HSV.out.both.rsrv who HLN1.out.1).mono ?_); rw [HS1.out]) | ((with_reducible refine (HSV.out.both.rsrv id HLN1.out.1).mono ?_); rw [HS2.out])); rintro e w9 ⟨rfl, rfl⟩)
                | (go_at_call 22; (with_reducible refine (same_ths _ _ _ _ _ L2 (ths_is HSV.out.row) HSV.out.li HLN1.out.1).mono ?_); rintro e w9 ⟨rfl, j9, rfl⟩; have HSV := Lib.hid (HSV.out.call (below_drewN (Below.refl _ _) j9))))
            all_goals
              go_wp2_with (go_at_call 23; (with_reducible refine (over_ths _ _ L2.length (thsC L2) _ HSV.out.row HLN1.out.2).mono ?_); rintro e w10 ⟨⟨r10, rfl⟩, hg10⟩; have HB10 := Lib.hid (grown_below (n := w7.heap.size) hg10 (fun k e => (HSV.out.row.lt k e).1) HSV.out.bl.size))
              go_roundw
              case rel => exact ⟨t + 1, by omega, by go_num, Lib.hid (HL2'.out ▸ HB7.out.call (HSV.out.bl.trans HB10.out))⟩
              case measure => first | (simp [intOf]; done) | (simp [intOf]; omega)
          · omega
        · by_cases h2 : d = 2
          · subst h2
            rcases Nat.lt_or_ge 0 1 with hz | hz
            · have HSTE : Hid (L2 = setTL L th) := Lib.hid (HST.out.trans (by unfold stepT; rw [if_neg (show ¬ (2 : Int) = 0 by decide), if_neg (show ¬ (2 : Int) = 1 by decide), if_pos rfl]))
              have hmay : ∃ m, mayT th = m := ⟨_, rfl⟩
              obtain ⟨m, hm⟩ := hmay
              have HM := Lib.hid hm
              clear hm
              go_upto_region 17 with (fail)
              have HXd := Lib.hid (show XA w1.drew xB ⟨2, id, th⟩ from HXA.out)
              have HBd := Lib.hid (HBS.out.call (Below.refl _ _).drew)
              have HX := HXd
              clear q0
              go_region_held3 (fun w' => XA w' xB ⟨2, id, th⟩)
                (exact HX.out)
                (first
                  | (go_at_call 8; (with_reducible refine (num_any _ _).mono ?_); rintro e w3 ⟨rfl, rfl⟩)
                  | (go_at_call 15; (with_reducible refine (may_any _ th).mono ?_); rw [HM.out]; rintro e w3 ⟨rfl, hb3⟩; have HB := Lib.hid (HB.out.call hb3); have HX := Lib.hid (HX.out.call hb3); clear hb3)
                  | (go_at_call 16; (with_reducible refine (rmay_any _ th).mono ?_); rw [HM.out]; rintro e w3 ⟨rfl, hb3⟩; have HB := Lib.hid (HB.out.call hb3); have HX := Lib.hid (HX.out.call hb3); clear hb3)
                  | (go_at_call 14; (with_reducible refine (HH.out.setR HLN.out).mono ?_); rintro e w3 ⟨rfl, hs3, hk3⟩; have HB := Lib.hid hs3.both; have HX : Hid (XA _ xB ⟨2, id, th⟩) := Lib.hid ((hk3 xB rfl).trans HX.out); clear hs3 hk3)
                  | (go_at_call 13; (with_reducible refine (HBd.out.setA th).mono ?_); rintro e w2 ⟨rfl, hh2, hk2⟩; have HH := Lib.hid hh2; have HX : Hid (XA _ xB ⟨2, id, th⟩) := Lib.hid ((hk2 xB rfl).trans HX.out); clear hh2 hk2))
              rw [← HSTE.out] at HB
              go_upto_region 18 with (fail)
              have HL1 := Lib.hid hl1
              clear hl1 hl2
              have q1 := HL1.out _ HX.out
              obtain ⟨y, hy⟩ : ∃ y, obT (getT L2 id) = y := ⟨_, rfl⟩
              obtain ⟨gs, hgs⟩ : ∃ z, (getT L2 id).isSome = z := ⟨_, rfl⟩
              have HY := Lib.hid hy
              have HGS := Lib.hid hgs
              clear hy hgs
              go_upto_region 19 with (first
                | (go_at_call 17; (with_reducible refine (HB.out.get id).mono ?_); rw [HY.out, HGS.out]; rintro e w4 ⟨rfl, hb4⟩; have HB4 := Lib.hid (HB.out.call hb4); have HX4 := Lib.hid (HX.out.call hb4))
                | (refine wpList_store_row rfl 35 _ _ rfl w4.heap.size y.cells.toArray rfl rfl _ _ (heap_alloc_new w4 _) (by kernel_rfl) rfl (th_one' _) ?_))
              rw [alloc_setRow]
              obtain ⟨w5, hw5⟩ : ∃ z, z = w4.alloc (.cells y.cells.toArray 35) := ⟨_, rfl⟩
              rw [← hw5]
              have HG5 : Hid (XT w5 w4.heap.size y) := Lib.hid (by rw [hw5]; exact heap_alloc_new w4 _)
              have h45 : Below w4.heap.size w4 w5 := by rw [hw5]; exact bal (Below.refl _ _) _
              have HB5 := Lib.hid (HB4.out.call h45)
              have HX5 := Lib.hid (HX4.out.call h45)
              clear hw5 h45 q1 hb4
              generalize w4.heap.size = gB at *
              have q1 := HL1.out _ HX5.out
              go_upto_region 20 with (first
                | (go_at_call 18; (with_reducible refine (HB5.out.rget id HLN1.out.1).mono ?_); rw [HY.out, HGS.out]; rintro e w6 ⟨rfl, hb6⟩; have HB6 := Lib.hid (HB5.out.call hb6); have HX6 := Lib.hid (HX5.out.call hb6); have HG6 := Lib.hid (HG5.out.call hb6))
                | (refine wpList_store_row rfl 35 _ _ rfl w6.heap.size y.cells.toArray rfl rfl _ _ (heap_alloc_new w6 _) (by kernel_rfl) rfl (th_one' _) ?_))
              rw [alloc_setRow]
              obtain ⟨w7, hw7⟩ : ∃ z, z = w6.alloc (.cells y.cells.toArray 35) := ⟨_, rfl⟩
              rw [← hw7]
              have HH7 : Hid (XT w7 w6.heap.size y) := Lib.hid (by rw [hw7]; exact heap_alloc_new w6 _)
              have h67 : Below w6.heap.size w6 w7 := by rw [hw7]; exact bal (Below.refl _ _) _
              have HB7 := Lib.hid (HB6.out.call h67)
              have HX7 := Lib.hid (HX6.out.call h67)
              have HG7 := Lib.hid (HG6.out.call h67)
              clear hw7 h67 q1 hb6 HB4 HB5 HB6 HX4 HX5 HX6 HG5 HG6 HB HX
              generalize w6.heap.size = hB at *
              go_upto_region 21 with (go_at_call 19; (with_reducible refine (HB7.out.all HLN1.out.1).mono ?_); rintro e w8 ⟨r, rfl, hR, hb8⟩; have HR := Lib.hid hR; have HB8 := Lib.hid hb8; clear hR hb8)
              obtain ⟨ra, rc, rfl, hrc, hra⟩ := ths_of HR.out
              clear hra hrc
              obtain ⟨la, lc, hli1, hli2, hli3⟩ := (HB7.out.call HB8.out).list
              have HS8 : Hid (SvT W w7 w8 b rb xB gB hB L2 ⟨2, id, th⟩ y ra la rc lc) := Lib.hid ⟨HB7.out.call HB8.out, HX7.out.call HB8.out, HG7.out.call HB8.out, HH7.out.call HB8.out, hli1, hli3, hli2, HR.out, HB8.out⟩
              have HSV := Lib.hid (HS8.out.call (Below.refl _ _).drew)
              clear hli1 hli2 hli3 HR HB8 HX7 HG7 HH7
              have hl1 := HL1.out
              have hy1 : ∀ w', XT w' gB y → (loadVar 35 ⟨gB, 0, none⟩).run Try.prog w' = .ok (.agg y.cells.toArray) w' := fun w' h => run_load_th h.range
              have hy2 : ∀ w', XT w' hB y → (loadVar 35 ⟨hB, 0, none⟩).run Try.prog w' = .ok (.agg y.cells.toArray) w' := fun w' h => run_load_th h.range
              have hls : ∀ w', w'.cell? ⟨rb, 0, none⟩ = some (.slice la L2.length lc) → (loadVar 27 ⟨rb, 0, none⟩).run Try.prog w' = .ok (.slice la L2.length lc) w' := fun w' h => run_load_sl h
              generalize hs1 : srvT L2 who = s1 at *
              generalize hs2 : srvT L2 id = s2 at *
              have HS1 := Lib.hid hs1
              have HS2 := Lib.hid hs2
              clear hs1 hs2
              go_region_held3 (fun w' => XA w' xB ⟨2, id, th⟩ ∧ XT w' gB y ∧ XT w' hB y ∧ w'.cell? ⟨rb, 0, none⟩ = some (.slice la L2.length lc))
                (exact HSV.out.held)
                (first
                  | (go_at_call 20; (first | ((with_reducible refine (HSV.out.both.srv who HLN1.out.1).mono ?_); rw [HS1.out]) | ((with_reducible refine (HSV.out.both.srv id HLN1.out.1).mono ?_); rw [HS2.out])); rintro e w9 ⟨rfl, hb9⟩; have HSV := Lib.hid (HSV.out.call hb9))
                  | (go_at_call 21; (first | ((with_reducible refine (HSV.out.both.rsrv who HLN1.out.1).mono ?_); rw [HS1.out]) | ((with_reducible refine (HSV.out.both.rsrv id HLN1.out.1).mono ?_); rw [HS2.out])); rintro e w9 ⟨rfl, rfl⟩)
                  | (go_at_call 22; (with_reducible refine (same_ths _ _ _ _ _ L2 (ths_is HSV.out.row) HSV.out.li HLN1.out.1).mono ?_); rintro e w9 ⟨rfl, j9, rfl⟩; have HSV := Lib.hid (HSV.out.call (below_drewN (Below.refl _ _) j9))))
              all_goals
                go_wp2_with (go_at_call 23; (with_reducible refine (over_ths _ _ L2.length (thsC L2) _ HSV.out.row HLN1.out.2).mono ?_); rintro e w10 ⟨⟨r10, rfl⟩, hg10⟩; have HB10 := Lib.hid (grown_below (n := w7.heap.size) hg10 (fun k e => (HSV.out.row.lt k e).1) HSV.out.bl.size))
                go_roundw
                case rel => exact ⟨t + 1, by omega, by go_num, Lib.hid (HL2'.out ▸ HB7.out.call (HSV.out.bl.trans HB10.out))⟩
                case measure => first | (simp [intOf]; done) | (simp [intOf]; omega)
            · omega
          · rcases Nat.lt_or_ge 0 1 with hz | hz
            · have HSTE : Hid (L2 = L) := Lib.hid (HST.out.trans (by unfold stepT; rw [if_neg h0, if_neg h1, if_neg h2]))
              have HB := Lib.hid HBS.out.both
              rw [← HSTE.out] at HB
              have HX := HXA
              go_upto_region 18 with (fail)
              clear q0
              have HL1 := Lib.hid hl1
              clear hl1 hl2
              have q1 := HL1.out _ HX.out
              obtain ⟨y, hy⟩ : ∃ y, obT (getT L2 id) = y := ⟨_, rfl⟩
              obtain ⟨gs, hgs⟩ : ∃ z, (getT L2 id).isSome = z := ⟨_, rfl⟩
              have HY := Lib.hid hy
              have HGS := Lib.hid hgs
              clear hy hgs
              go_upto_region 19 with (first
                | (go_at_call 17; (with_reducible refine (HB.out.get id).mono ?_); rw [HY.out, HGS.out]; rintro e w4 ⟨rfl, hb4⟩; have HB4 := Lib.hid (HB.out.call hb4); have HX4 := Lib.hid (HX.out.call hb4))
                | (refine wpList_store_row rfl 35 _ _ rfl w4.heap.size y.cells.toArray rfl rfl _ _ (heap_alloc_new w4 _) (by kernel_rfl) rfl (th_one' _) ?_))
              rw [alloc_setRow]
              obtain ⟨w5, hw5⟩ : ∃ z, z = w4.alloc (.cells y.cells.toArray 35) := ⟨_, rfl⟩
              rw [← hw5]
              have HG5 : Hid (XT w5 w4.heap.size y) := Lib.hid (by rw [hw5]; exact heap_alloc_new w4 _)
              have h45 : Below w4.heap.size w4 w5 := by rw [hw5]; exact bal (Below.refl _ _) _
              have HB5 := Lib.hid (HB4.out.call h45)
              have HX5 := Lib.hid (HX4.out.call h45)
              clear hw5 h45 q1 hb4
              generalize w4.heap.size = gB at *
              have q1 := HL1.out _ HX5.out
              go_upto_region 20 with (first
                | (go_at_call 18; (with_reducible refine (HB5.out.rget id HLN1.out.1).mono ?_); rw [HY.out, HGS.out]; rintro e w6 ⟨rfl, hb6⟩; have HB6 := Lib.hid (HB5.out.call hb6); have HX6 := Lib.hid (HX5.out.call hb6); have HG6 := Lib.hid (HG5.out.call hb6))
                | (refine wpList_store_row rfl 35 _ _ rfl w6.heap.size y.cells.toArray rfl rfl _ _ (heap_alloc_new w6 _) (by kernel_rfl) rfl (th_one' _) ?_))
              rw [alloc_setRow]
              obtain ⟨w7, hw7⟩ : ∃ z, z = w6.alloc (.cells y.cells.toArray 35) := ⟨_, rfl⟩
              rw [← hw7]
              have HH7 : Hid (XT w7 w6.heap.size y) := Lib.hid (by rw [hw7]; exact heap_alloc_new w6 _)
              have h67 : Below w6.heap.size w6 w7 := by rw [hw7]; exact bal (Below.refl _ _) _
              have HB7 := Lib.hid (HB6.out.call h67)
              have HX7 := Lib.hid (HX6.out.call h67)
              have HG7 := Lib.hid (HG6.out.call h67)
              clear hw7 h67 q1 hb6 HB4 HB5 HB6 HX4 HX5 HX6 HG5 HG6 HB HX
              generalize w6.heap.size = hB at *
              go_upto_region 21 with (go_at_call 19; (with_reducible refine (HB7.out.all HLN1.out.1).mono ?_); rintro e w8 ⟨r, rfl, hR, hb8⟩; have HR := Lib.hid hR; have HB8 := Lib.hid hb8; clear hR hb8)
              obtain ⟨ra, rc, rfl, hrc, hra⟩ := ths_of HR.out
              clear hra hrc
              obtain ⟨la, lc, hli1, hli2, hli3⟩ := (HB7.out.call HB8.out).list
              have HS8 : Hid (SvT W w7 w8 b rb xB gB hB L2 ⟨d, id, th⟩ y ra la rc lc) := Lib.hid ⟨HB7.out.call HB8.out, HX7.out.call HB8.out, HG7.out.call HB8.out, HH7.out.call HB8.out, hli1, hli3, hli2, HR.out, HB8.out⟩
              have HSV := Lib.hid (HS8.out.call (Below.refl _ _).drew)
              clear hli1 hli2 hli3 HR HB8 HX7 HG7 HH7
              have hl1 := HL1.out
              have hy1 : ∀ w', XT w' gB y → (loadVar 35 ⟨gB, 0, none⟩).run Try.prog w' = .ok (.agg y.cells.toArray) w' := fun w' h => run_load_th h.range
              have hy2 : ∀ w', XT w' hB y → (loadVar 35 ⟨hB, 0, none⟩).run Try.prog w' = .ok (.agg y.cells.toArray) w' := fun w' h => run_load_th h.range
              have hls : ∀ w', w'.cell? ⟨rb, 0, none⟩ = some (.slice la L2.length lc) → (loadVar 27 ⟨rb, 0, none⟩).run Try.prog w' = .ok (.slice la L2.length lc) w' := fun w' h => run_load_sl h
              generalize hs1 : srvT L2 who = s1 at *
              generalize hs2 : srvT L2 id = s2 at *
              have HS1 := Lib.hid hs1
              have HS2 := Lib.hid hs2
              clear hs1 hs2
              go_region_held3 (fun w' => XA w' xB ⟨d, id, th⟩ ∧ XT w' gB y ∧ XT w' hB y ∧ w'.cell? ⟨rb, 0, none⟩ = some (.slice la L2.length lc))
                (exact HSV.out.held)
                (first
                  | (go_at_call 20; (first | ((with_reducible refine (HSV.out.both.srv who HLN1.out.1).mono ?_); rw [HS1.out]) | ((with_reducible refine (HSV.out.both.srv id HLN1.out.1).mono ?_); rw [HS2.out])); rintro e w9 ⟨rfl, hb9⟩; have HSV := Lib.hid (HSV.out.call hb9))
                  | (go_at_call 21; (first | ((with_reducible refine (HSV.out.both.rsrv who HLN1.out.1).mono ?_); rw [HS1.out]) | ((with_reducible refine (HSV.out.both.rsrv id HLN1.out.1).mono ?_); rw [HS2.out])); rintro e w9 ⟨rfl, rfl⟩)
                  | (go_at_call 22; (with_reducible refine (same_ths _ _ _ _ _ L2 (ths_is HSV.out.row) HSV.out.li HLN1.out.1).mono ?_); rintro e w9 ⟨rfl, j9, rfl⟩; have HSV := Lib.hid (HSV.out.call (below_drewN (Below.refl _ _) j9))))
              all_goals
                go_wp2_with (go_at_call 23; (with_reducible refine (over_ths _ _ L2.length (thsC L2) _ HSV.out.row HLN1.out.2).mono ?_); rintro e w10 ⟨⟨r10, rfl⟩, hg10⟩; have HB10 := Lib.hid (grown_below (n := w7.heap.size) hg10 (fun k e => (HSV.out.row.lt k e).1) HSV.out.bl.size))
                go_roundw
                case rel => exact ⟨t + 1, by omega, by go_num, Lib.hid (HL2'.out ▸ HB7.out.call (HSV.out.bl.trans HB10.out))⟩
                case measure => first | (simp [intOf]; done) | (simp [intOf]; omega)
            · omega
    · obtain rfl : t = n := by omega
      have hln := play_len D t
      have HLN := Lib.hid (show (playT D t).length < 1000000 by omega)
      generalize playT D t = L at *
      clear hln
      have HOd := Lib.hid (HO.out.call (Below.refl _ _).drew)
      obtain ⟨la, lc, hl⟩ := HOd.out.list
      have HLd := Lib.hid hl
      clear hl
      go_upto_region 24 with (fail)
      have hls : ∀ w', w'.cell? ⟨rb, 0, none⟩ = some (.slice la L.length lc) → (loadVar 27 ⟨rb, 0, none⟩).run Try.prog w' = .ok (.slice la L.length lc) w' := fun w' h => run_load_sl h
      have HL := HLd
      go_region_held3 (fun w' => w'.cell? ⟨rb, 0, none⟩ = some (.slice la L.length lc))
        (exact HL.out.1)
        (first
          | (go_at_call 6; (with_reducible refine (awake20 _).mono ?_); rintro e w22 ⟨rfl, hb22⟩; have HB22 := Lib.hid (bgo2 HB21.out hb22 (Nat.le_refl _)); have HL := Lib.hid (list_call HL.out hb22); clear hb22)
          | (go_at_call 22; (with_reducible refine (same_ths _ _ _ _ _ L (ths_is HAL.out) HL.out.2.1 HLN.out).mono ?_); rintro e w21 ⟨rfl, j21, rfl⟩; have HB21 := Lib.hid (HB20.out.trans (below_drewN (Below.refl _ _) j21)); have HL := Lib.hid (list_call HL.out (below_drewN (Below.refl _ _) j21)))
          | (go_at_call 19; (with_reducible refine (HOd.out.all HLN.out).mono ?_); rintro e w20 ⟨r, rfl, ha, hb20⟩; obtain ⟨ra, rc, rfl, hrc, hra⟩ := ths_of ha; have HAL := Lib.hid ha; have HL := Lib.hid (list_call HL.out hb20); have HB20 := Lib.hid (bgo2 HOd.out.bl hb20 (Nat.le_refl _)); clear hb20 ha hrc hra))
      all_goals
        go_wp2
        go_ret
        exact ⟨rfl, HB22.out⟩
end Go.Proofs.Ytiagkoiikmmgdaa
