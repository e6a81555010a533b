/- SlotsScript: package slots and the own answer, act by act. -/
import Derived.Test.YtplanbihejodoaaDoorSrN
import Derived.Test.YtplanbihejodoaaDoorSloM
import Derived.BigQuiet
namespace Go.Proofs.YtplanbihejodoaaDoor
set_option linter.unusedVariables false
set_option linter.unusedSimpArgs false
open Go.ChangeShapes Go.WideShapes Go.ChangeAt Go.RowKit Go.Shelf

namespace TabS
/-- The act, boxed. -/
def XA (w : World) (k : Nat) (x : ActC) : Prop := w.heap[k]? = some (.cells x.cells.toArray 36 (0, 0))
theorem XA.cell {w : World} {k : Nat} {x : ActC} (h : XA w k x) (j : Nat) (u : Value) (hu : x.cells[j]? = some u) : w.cell? ⟨k, j, none⟩ = some u := (cell_cur (cur := x.cells) h j).trans hu
theorem XA.same {w w' : World} {k : Nat} {x : ActC} {S : Nat → Prop} (h : XA w k x) (hk : SameK S w w') (hS : S k) : XA w' k x := (hk k hS).trans h
theorem XA.call {w w' : World} {k : Nat} {x : ActC} (h : XA w k x) (hb : Below w.heap.size w w') : XA w' k x := (hb.block k (Array.getElem?_eq_some_iff.1 h).1).trans h
/-- What a round holds: the act boxed in block k, and both sides. -/
structure Rd (W w : World) (b rb t k : Nat) (x : ActC) (L M : List Sn) : Prop where
  pr : Pr W w b rb (fun j => j = k) L M
  xa : XA w k x
  kW : W.heap.size ≤ k
theorem cap_cells {w : World} {k : Nat} {c : Cp} (h : w.heap[k]? = some (.cells c.L.toArray 34 (0, 0))) : w.cell? ⟨k, 0, none⟩ = some (.int .i64 c.a) ∧ w.cell? ⟨k, 1, none⟩ = some (.int .i64 c.b) ∧ w.cell? ⟨k, 2, none⟩ = some (.int .i64 c.c) ∧ w.cell? ⟨k, 3, none⟩ = some (.int .u64 c.d) ∧ w.cell? ⟨k, 4, none⟩ = some (.int .i64 c.e) ∧ w.cell? ⟨k, 5, none⟩ = some (.int .i64 c.f) ∧ w.cell? ⟨k, 6, none⟩ = some (.int .i64 c.g) ∧ w.cell? ⟨k, 7, none⟩ = some (.int .i64 c.h) :=
  ⟨cell_of_row _ _ 0 _ _ _ h, cell_of_row _ _ 1 _ _ _ h, cell_of_row _ _ 2 _ _ _ h, cell_of_row _ _ 3 _ _ _ h, cell_of_row _ _ 4 _ _ _ h, cell_of_row _ _ 5 _ _ _ h, cell_of_row _ _ 6 _ _ _ h, cell_of_row _ _ 7 _ _ _ h⟩
set_option maxRecDepth 100000 in
set_option maxHeartbeats 2000000 in
theorem script_any (q : Option Addr) (n cc : Nat) (D : Nat → ActC) (W : World) (hn : n ≤ 100) (hD : ActsAt W q n D) (hT : CX.TabG W) :
    Calls Tryd.prog 3 #[.slice q n cc] W fun e w' => e = .returned (.bool true) ∧ Below W.heap.size W w' := by
  have HD := Lib.hid hD
  have HT := Lib.hid hT
  have hn' : ¬ (n : Int) > 100 := by omega
  clear hD hT
  go_enter Tryd.func3, Tryd.ntmps3
  go_upto_region 4 with (go_at_call 7; refine (snew_any' _).mono ?_; rintro e w1 ⟨rfl, ha1, hb1⟩; have HP := Lib.hid (pr_start ha1 hb1); clear ha1 hb1)
  generalize w1.alloc (.cells #[.slice none 0 0] 29) = w2 at *
  obtain ⟨b, hb⟩ : ∃ b, b = W.heap.size := ⟨_, rfl⟩
  obtain ⟨rb, hrb⟩ : ∃ b, b = w1.heap.size := ⟨_, rfl⟩
  rw [← hb, ← hrb] at HP ⊢
  clear hb hrb
  have HS : Hid (Sc W w2 b rb 0 (fun _ => False) [] []) := Lib.hid ⟨HP.out, rfl, Nat.le_refl _⟩
  clear HP
  go_wp2
  go_loopw [5, 6, 7, 8, 9, 10, 11, 12] (fun i _ _ _ _ _ _ _ wr => ∃ (t : Nat) (L M : List Sn), t ≤ n ∧ i = .int .i64 t ∧ Hid (Sc W wr b rb t (fun _ => False) L M)) (fun i _ _ _ _ _ _ _ _ => n - (intOf i).toNat)
  case atStart => exact ⟨0, [], [], by omega, rfl, HS⟩
  case round =>
    obtain ⟨t, L, M, ht, rfl, HO⟩ := hrel
    clear HS
    by_cases hlt : t < n
    · have hltI : (t : Int) < n := by omega
      obtain ⟨aB, aO, hq, hcs⟩ := HD.out
      obtain ⟨rfl, hal⟩ := hq (by omega)
      obtain ⟨hrow, hok⟩ := hcs t hlt
      have hbl := HO.out.pr.below
      have hcell : ∀ j v, (D t).cells[j]? = some v → wr.cell? ⟨aB, aO + t * 12 + j, none⟩ = some v := fun j v hj => (hbl.cell (p := ⟨aB, _, none⟩) hal).trans (hrow j v hj)
      generalize D t = x at *
      have c0 := hcell 0 _ rfl
      rw [Nat.add_zero] at c0
      have c1 := hcell 1 _ rfl
      have c2 := hcell 2 _ rfl
      have c3 := hcell 3 _ rfl
      have c4 := hcell 4 _ rfl
      have c5 := hcell 5 _ rfl
      have c6 := hcell 6 _ rfl
      have c7 := hcell 7 _ rfl
      have c8 := hcell 8 _ rfl
      have c9 := hcell 9 _ rfl
      have c10 := hcell 10 _ rfl
      have c11 := hcell 11 _ rfl
      have HOK := Lib.hid hok
      clear hq hcs hrow hok hcell hal
      go_upto_region 10 with fail
      obtain ⟨w3, hw3⟩ : ∃ y, y = wr.alloc (.cells #[.int .i64 x.d, .int .i64 x.n, .int .i64 x.s, .int .i64 x.i, .int .i64 x.c.a, .int .i64 x.c.b, .int .i64 x.c.c, .int .u64 x.c.d, .int .i64 x.c.e, .int .i64 x.c.f, .int .i64 x.c.g, .int .i64 x.c.h] 36) := ⟨_, rfl⟩
      rw [← hw3]
      have hb3 : Below wr.heap.size wr w3 := hw3 ▸ bal (Below.refl _ _) _
      have R3 : Hid (Rd W w3 b rb t wr.heap.size x L M) := Lib.hid ⟨(HO.out.pr.fresh hb3).mono (fun j hj => .inr ⟨by omega, by rw [hj, hw3]; simp⟩), by rw [hw3]; exact heap_alloc_new wr _, hbl.size⟩
      generalize wr.heap.size = xB at *
      clear hw3 hb3 hbl c0 c1 c2 c3 c4 c5 c6 c7 c8 c9 c10 c11
      have HM0 := Lib.hid HO.out.ascM
      have HSM := Lib.hid HO.out.same
      have HLL := Lib.hid (show L.length < 1000000 ∧ M.length < 1000000 ∧ L.length ≤ t by have := HO.out.len; have := HO.out.same.len; omega)
      have hd3 : Below w3.heap.size w3 w3.drew := (Below.refl _ _).drew
      have R3d : Hid (Rd W w3.drew b rb t xB x L M) := Lib.hid ⟨R3.out.pr.call hd3, R3.out.xa.call hd3, R3.out.kW⟩
      have x0 := R3.out.xa.cell 0 _ rfl
      have x1 := R3.out.xa.cell 1 _ rfl
      have x2 := R3.out.xa.cell 2 _ rfl
      clear hd3 HO
      by_cases d0 : x.d = 0
      · rw [d0] at x0
        have HAP := Lib.hid (Pr.addP R3d.out.pr HLL.out.1 x.s x.n)
        have HD0 := Lib.hid d0
        clear d0
        go_upto_region 13 with fail
        go_region_held3 (fun w' => w'.cell? ⟨xB, 1, none⟩ = some (.int .i64 x.n) ∧ w'.cell? ⟨xB, 2, none⟩ = some (.int .i64 x.s))
          (first | exact ⟨RB.out.xa.cell 1 _ rfl, RB.out.xa.cell 2 _ rfl⟩ | exact ⟨RA.out.xa.cell 1 _ rfl, RA.out.xa.cell 2 _ rfl⟩ | exact ⟨R3d.out.xa.cell 1 _ rfl, R3d.out.xa.cell 2 _ rfl⟩ | exact ⟨R3.out.xa.cell 1 _ rfl, R3.out.xa.cell 2 _ rfl⟩)
          (first
            | (go_at_call 9; (with_reducible refine HAP.out.mono ?_); rintro e w4 ⟨rfl, L', hr, hp, hk⟩; have HRL := Lib.hid hr; have RA : Hid (Rd W w4 b rb t xB x L' M) := Lib.hid ⟨hp, R3d.out.xa.same hk rfl, R3d.out.kW⟩; clear hr hp hk)
            | (go_at_call 8; (with_reducible refine (num_s _ _).mono ?_); rintro e w5 ⟨rfl, rfl⟩)
            | (go_at_call 10; (with_reducible refine (Pr.addR RA.out.pr HM0.out HLL.out.2.1 x.s x.n).mono ?_); rintro e w5 ⟨rfl, M', hr, hp, hk⟩; have HRM := Lib.hid hr; have RB : Hid (Rd W w5 b rb t xB x L' M') := Lib.hid ⟨hp, RA.out.xa.same hk rfl, RA.out.kW⟩; clear hr hp hk))
        all_goals
          obtain ⟨hs', he'⟩ := add_same HSM.out HRL.out HRM.out
          have hle := add_len HRL.out
          have RZ : Hid (Rd W w5 b rb t xB x L' M' ∧ SameS L' M' ∧ L'.length ≤ t + 1) := Lib.hid ⟨RB.out, hs', by have := HLL.out.2.2; omega⟩
          rw [he']
          clear hs' he' hle HRL HRM RA RB HAP HD0 x0 x1 x2
          generalize addSR M x.s x.n = z at *
          go_upto_region 22 with fail
          have y2 := RZ.out.1.xa.cell 2 _ rfl
          have hd5 : Below w5.heap.size w5 w5.drew := (Below.refl _ _).drew
          have RZd : Hid (Rd W w5.drew b rb t xB x L' M') := Lib.hid ⟨RZ.out.1.pr.call hd5, RZ.out.1.xa.call hd5, RZ.out.1.kW⟩
          have HLZ := Lib.hid (show L'.length < 1000000 ∧ M'.length < 1000000 by have := RZ.out.2.2; have := RZ.out.2.1.len; have := HLL.out; omega)
          have HAZ := Lib.hid (RZ.out.2.1.asc RZ.out.1.pr.asc)
          have HSP : Hid (Calls Tryd.prog 17 #[.pointer (some ⟨b, 0, none⟩), .int .i64 x.s] w5.drew fun e w' => e = .returned (.int .i64 (sizS M' x.s)) ∧ Below w5.drew.heap.size w5.drew w') := Lib.hid (by rw [← size_same RZ.out.2.1]; exact RZd.out.pr.size x.s)
          clear hd5
          go_region_held3 (fun w' => w'.cell? ⟨xB, 2, none⟩ = some (.int .i64 x.s))
            (first | exact RC.out.xa.cell 2 _ rfl | exact RZd.out.xa.cell 2 _ rfl | exact RZ.out.1.xa.cell 2 _ rfl)
            (first
              | (go_at_call 17; (with_reducible refine HSP.out.mono ?_); rintro e w6 ⟨rfl, hb⟩; have RC : Hid (Rd W w6 b rb t xB x L' M') := Lib.hid ⟨RZd.out.pr.call hb, RZd.out.xa.call hb, RZd.out.kW⟩; clear hb)
              | (go_at_call 18; (with_reducible refine (Pr.rsize RC.out.pr HAZ.out HLZ.out.2 x.s).mono ?_); rintro e w7 ⟨rfl, rfl⟩))
          all_goals
            clear RZd HSP y2
            go_upto_region 25 with (go_at_call 19; (with_reducible refine (Pr.used RC.out.pr HLZ.out.1).mono ?_); rintro e w8 ⟨rv, rfl, hrow, hb⟩; have HR8 := Lib.hid hrow; have HB8 := Lib.hid hb; clear hrow hb)
            obtain ⟨ra, rc, rfl, hrc, hra⟩ := hs_of HR8.out
            have RD : Hid (Pr W w8 b rb (fun j => w6.heap.size ≤ j ∧ j < w8.heap.size) L' M') := Lib.hid ((RC.out.pr.fresh HB8.out).mono (fun j hj => .inr hj))
            have HI8 := Lib.hid (hs_is HR8.out)
            have HHL : Hid ((heldA L').length < 1000000 ∧ (heldA L').length ≤ 1000000) := Lib.hid (by
              obtain ⟨base, tv, rbase, v, hT⟩ := RD.out
              have := heldA_len L' hT.pk.bd
              have := RZ.out.2.2
              omega)
            have HW6 := Lib.hid RC.out.pr.below.size
            clear hra RC HB8
            go_upto_region 27 with (first
              | (go_at_call 21; (with_reducible refine (Pr.rused RD.out HLZ.out.2).mono ?_); rintro e w9 ⟨rv, rfl, hrow, hb⟩; rw [← RZ.out.2.1.held] at hrow; obtain ⟨rb9, rc9, rfl, hrc9, _⟩ := hs_of hrow; have HI9 := Lib.hid (hs_is hrow); have HB9 := Lib.hid hb; clear hrow hb)
              | (go_at_call 20; (with_reducible refine (same_hs _ ra rb9 rc rc9 (heldA L') (HI8.out.call HB9.out) HI9.out HHL.out.1).mono ?_); rintro e w10 ⟨rfl, jj, rfl⟩))
            have hbj : Below w8.heap.size w8 (w9.drewN jj) := below_drewN HB9.out jj
            have HRJ := Lib.hid (row_of_block HR8.out (fun g hg => hbj.block g (HR8.out.lt g hg).2))
            have RE := Lib.hid (RD.out.call hbj)
            have HBJ := Lib.hid hbj
            clear hbj
            go_wp2_with (go_at_call 22; refine (over_hs _ _ _ _ _ HRJ.out HHL.out.2).mono ?_; rintro e w11 ⟨⟨uu, rfl⟩, hg⟩; have HG := Lib.hid hg; clear hg)
            have HPZ := Lib.hid (RE.out.over _ (fun g e => ⟨HR8.out.lt g e, Nat.le_trans HW6.out (HR8.out.lt g e).1⟩) HG.out)
            go_roundw
            case rel => exact ⟨t + 1, L', M', by omega, by go_num, Lib.hid ⟨HPZ.out, RZ.out.2.1, RZ.out.2.2⟩⟩
            case measure => first | (simp [intOf]; done) | (simp [intOf]; omega)
      · by_cases d1 : x.d = 1
        · rw [d1] at x0
          have HAP := Lib.hid (Pr.dropP R3d.out.pr x.s)
          have HD0 := Lib.hid d1
          clear d1 d0
          go_upto_region 15 with fail
          go_region_held3 (fun w' => w'.cell? ⟨xB, 2, none⟩ = some (.int .i64 x.s))
            (first | exact RB.out.xa.cell 2 _ rfl | exact RA.out.xa.cell 2 _ rfl | exact R3d.out.xa.cell 2 _ rfl | exact R3.out.xa.cell 2 _ rfl)
            (first
              | (go_at_call 11; (with_reducible refine HAP.out.mono ?_); rintro e w4 ⟨rfl, hp, hk⟩; have RA : Hid (Rd W w4 b rb t xB x (dropSL L x.s) M) := Lib.hid ⟨hp, R3d.out.xa.same hk rfl, R3d.out.kW⟩; clear hp hk)
              | (go_at_call 8; (with_reducible refine (num_s _ _).mono ?_); rintro e w5 ⟨rfl, rfl⟩)
              | (go_at_call 12; (with_reducible refine (Pr.dropRf RA.out.pr HM0.out HLL.out.2.1 x.s).mono ?_); rintro e w5 ⟨rfl, hp, hk⟩; have RB : Hid (Rd W w5 b rb t xB x (dropSL L x.s) (dropSL M x.s)) := Lib.hid ⟨hp, RA.out.xa.same hk rfl, RA.out.kW⟩; clear hp hk))
          all_goals
            obtain ⟨he', hs'⟩ := drop_same HSM.out x.s
            have hle := drop_len L x.s
            have RZ : Hid (Rd W w5 b rb t xB x (dropSL L x.s) (dropSL M x.s) ∧ SameS (dropSL L x.s) (dropSL M x.s) ∧ (dropSL L x.s).length ≤ t + 1) := Lib.hid ⟨RB.out, hs', by have := HLL.out.2.2; omega⟩
            rw [he']
            clear hs' he' hle RA RB HAP HD0 x0 x1 x2
            generalize dropSR M x.s = z at *
            generalize dropSL L x.s = L' at *
            generalize dropSL M x.s = M' at *
            go_upto_region 22 with fail
            have y2 := RZ.out.1.xa.cell 2 _ rfl
            have hd5 : Below w5.heap.size w5 w5.drew := (Below.refl _ _).drew
            have RZd : Hid (Rd W w5.drew b rb t xB x L' M') := Lib.hid ⟨RZ.out.1.pr.call hd5, RZ.out.1.xa.call hd5, RZ.out.1.kW⟩
            have HLZ := Lib.hid (show L'.length < 1000000 ∧ M'.length < 1000000 by have := RZ.out.2.2; have := RZ.out.2.1.len; have := HLL.out; omega)
            have HAZ := Lib.hid (RZ.out.2.1.asc RZ.out.1.pr.asc)
            have HSP : Hid (Calls Tryd.prog 17 #[.pointer (some ⟨b, 0, none⟩), .int .i64 x.s] w5.drew fun e w' => e = .returned (.int .i64 (sizS M' x.s)) ∧ Below w5.drew.heap.size w5.drew w') := Lib.hid (by rw [← size_same RZ.out.2.1]; exact RZd.out.pr.size x.s)
            clear hd5
            go_region_held3 (fun w' => w'.cell? ⟨xB, 2, none⟩ = some (.int .i64 x.s))
              (first | exact RC.out.xa.cell 2 _ rfl | exact RZd.out.xa.cell 2 _ rfl | exact RZ.out.1.xa.cell 2 _ rfl)
              (first
                | (go_at_call 17; (with_reducible refine HSP.out.mono ?_); rintro e w6 ⟨rfl, hb⟩; have RC : Hid (Rd W w6 b rb t xB x L' M') := Lib.hid ⟨RZd.out.pr.call hb, RZd.out.xa.call hb, RZd.out.kW⟩; clear hb)
                | (go_at_call 18; (with_reducible refine (Pr.rsize RC.out.pr HAZ.out HLZ.out.2 x.s).mono ?_); rintro e w7 ⟨rfl, rfl⟩))
            all_goals
              clear RZd HSP y2
              go_upto_region 25 with (go_at_call 19; (with_reducible refine (Pr.used RC.out.pr HLZ.out.1).mono ?_); rintro e w8 ⟨rv, rfl, hrow, hb⟩; have HR8 := Lib.hid hrow; have HB8 := Lib.hid hb; clear hrow hb)
              obtain ⟨ra, rc, rfl, hrc, hra⟩ := hs_of HR8.out
              have RD : Hid (Pr W w8 b rb (fun j => w6.heap.size ≤ j ∧ j < w8.heap.size) L' M') := Lib.hid ((RC.out.pr.fresh HB8.out).mono (fun j hj => .inr hj))
              have HI8 := Lib.hid (hs_is HR8.out)
              have HHL : Hid ((heldA L').length < 1000000 ∧ (heldA L').length ≤ 1000000) := Lib.hid (by
                obtain ⟨base, tv, rbase, v, hT⟩ := RD.out
                have := heldA_len L' hT.pk.bd
                have := RZ.out.2.2
                omega)
              have HW6 := Lib.hid RC.out.pr.below.size
              clear hra RC HB8
              go_upto_region 27 with (first
                | (go_at_call 21; (with_reducible refine (Pr.rused RD.out HLZ.out.2).mono ?_); rintro e w9 ⟨rv, rfl, hrow, hb⟩; rw [← RZ.out.2.1.held] at hrow; obtain ⟨rb9, rc9, rfl, hrc9, _⟩ := hs_of hrow; have HI9 := Lib.hid (hs_is hrow); have HB9 := Lib.hid hb; clear hrow hb)
                | (go_at_call 20; (with_reducible refine (same_hs _ ra rb9 rc rc9 (heldA L') (HI8.out.call HB9.out) HI9.out HHL.out.1).mono ?_); rintro e w10 ⟨rfl, jj, rfl⟩))
              have hbj : Below w8.heap.size w8 (w9.drewN jj) := below_drewN HB9.out jj
              have HRJ := Lib.hid (row_of_block HR8.out (fun g hg => hbj.block g (HR8.out.lt g hg).2))
              have RE := Lib.hid (RD.out.call hbj)
              have HBJ := Lib.hid hbj
              clear hbj
              go_wp2_with (go_at_call 22; refine (over_hs _ _ _ _ _ HRJ.out HHL.out.2).mono ?_; rintro e w11 ⟨⟨uu, rfl⟩, hg⟩; have HG := Lib.hid hg; clear hg)
              have HPZ := Lib.hid (RE.out.over _ (fun g e => ⟨HR8.out.lt g e, Nat.le_trans HW6.out (HR8.out.lt g e).1⟩) HG.out)
              go_roundw
              case rel => exact ⟨t + 1, L', M', by omega, by go_num, Lib.hid ⟨HPZ.out, RZ.out.2.1, RZ.out.2.2⟩⟩
              case measure => first | (simp [intOf]; done) | (simp [intOf]; omega)
        · by_cases d3 : x.d = 3
          · rw [d3] at x0
            have HAP := Lib.hid (Pr.setP R3d.out.pr (HT.out.call R3d.out.pr.below) x.s x.i x.c HOK.out.2.2.2.2.2)
            have HD0 := Lib.hid d3
            clear d1 d0 d3
            have x3 := R3.out.xa.cell 3 _ rfl
            have x4 := R3.out.xa.cell 4 _ rfl
            have x5 := R3.out.xa.cell 5 _ rfl
            have x6 := R3.out.xa.cell 6 _ rfl
            have x7 := R3.out.xa.cell 7 _ rfl
            have x8 := R3.out.xa.cell 8 _ rfl
            have x9 := R3.out.xa.cell 9 _ rfl
            have x10 := R3.out.xa.cell 10 _ rfl
            have x11 := R3.out.xa.cell 11 _ rfl
            go_upto_region 21 with fail
            go_region_held3 (fun w' => w'.cell? ⟨xB, 2, none⟩ = some (.int .i64 x.s) ∧ w'.cell? ⟨xB, 3, none⟩ = some (.int .i64 x.i) ∧ w'.cell? ⟨xB, 4, none⟩ = some (.int .i64 x.c.a) ∧ w'.cell? ⟨xB, 5, none⟩ = some (.int .i64 x.c.b) ∧ w'.cell? ⟨xB, 6, none⟩ = some (.int .i64 x.c.c) ∧ w'.cell? ⟨xB, 7, none⟩ = some (.int .u64 x.c.d) ∧ w'.cell? ⟨xB, 8, none⟩ = some (.int .i64 x.c.e) ∧ w'.cell? ⟨xB, 9, none⟩ = some (.int .i64 x.c.f) ∧ w'.cell? ⟨xB, 10, none⟩ = some (.int .i64 x.c.g) ∧ w'.cell? ⟨xB, 11, none⟩ = some (.int .i64 x.c.h))
              (first | exact ⟨RB.out.xa.cell 2 _ rfl, RB.out.xa.cell 3 _ rfl, RB.out.xa.cell 4 _ rfl, RB.out.xa.cell 5 _ rfl, RB.out.xa.cell 6 _ rfl, RB.out.xa.cell 7 _ rfl, RB.out.xa.cell 8 _ rfl, RB.out.xa.cell 9 _ rfl, RB.out.xa.cell 10 _ rfl, RB.out.xa.cell 11 _ rfl⟩ | exact ⟨RA.out.xa.cell 2 _ rfl, RA.out.xa.cell 3 _ rfl, RA.out.xa.cell 4 _ rfl, RA.out.xa.cell 5 _ rfl, RA.out.xa.cell 6 _ rfl, RA.out.xa.cell 7 _ rfl, RA.out.xa.cell 8 _ rfl, RA.out.xa.cell 9 _ rfl, RA.out.xa.cell 10 _ rfl, RA.out.xa.cell 11 _ rfl⟩ | exact ⟨R3d.out.xa.cell 2 _ rfl, R3d.out.xa.cell 3 _ rfl, R3d.out.xa.cell 4 _ rfl, R3d.out.xa.cell 5 _ rfl, R3d.out.xa.cell 6 _ rfl, R3d.out.xa.cell 7 _ rfl, R3d.out.xa.cell 8 _ rfl, R3d.out.xa.cell 9 _ rfl, R3d.out.xa.cell 10 _ rfl, R3d.out.xa.cell 11 _ rfl⟩ | exact ⟨R3.out.xa.cell 2 _ rfl, R3.out.xa.cell 3 _ rfl, R3.out.xa.cell 4 _ rfl, R3.out.xa.cell 5 _ rfl, R3.out.xa.cell 6 _ rfl, R3.out.xa.cell 7 _ rfl, R3.out.xa.cell 8 _ rfl, R3.out.xa.cell 9 _ rfl, R3.out.xa.cell 10 _ rfl, R3.out.xa.cell 11 _ rfl⟩)
              (first
                | (go_at_call 15; (with_reducible refine HAP.out.mono ?_); rintro e w4 ⟨rfl, hp, hk⟩; have RA : Hid (Rd W w4 b rb t xB x (setM L x.s x.i x.c) M) := Lib.hid ⟨hp, R3d.out.xa.same hk rfl, R3d.out.kW⟩; clear hp hk)
                | (go_at_call 8; (with_reducible refine (num_s _ _).mono ?_); rintro e w5 ⟨rfl, rfl⟩)
                | (go_at_call 16; (with_reducible refine (Pr.rset RA.out.pr HM0.out HLL.out.2.1 x.s x.i x.c).mono ?_); rintro e w5 ⟨rfl, hp, hk⟩; have RB : Hid (Rd W w5 b rb t xB x (setM L x.s x.i x.c) (setM M x.s x.i x.c)) := Lib.hid ⟨hp, RA.out.xa.same hk rfl, RA.out.kW⟩; clear hp hk))
            all_goals
              obtain ⟨he', hs'⟩ := set_same HSM.out x.s x.i x.c
              have hle := set_len L x.s x.i x.c
              have RZ : Hid (Rd W w5 b rb t xB x (setM L x.s x.i x.c) (setM M x.s x.i x.c) ∧ SameS (setM L x.s x.i x.c) (setM M x.s x.i x.c) ∧ (setM L x.s x.i x.c).length ≤ t + 1) := Lib.hid ⟨RB.out, hs', by have := HLL.out.2.2; omega⟩
              rw [he']
              clear hs' he' hle RA RB HAP HD0 x0 x1 x2 x3 x4 x5 x6 x7 x8 x9 x10 x11
              generalize setN M x.s x.i x.c = z at *
              generalize setM L x.s x.i x.c = L' at *
              generalize setM M x.s x.i x.c = M' at *
              go_upto_region 22 with fail
              have y2 := RZ.out.1.xa.cell 2 _ rfl
              have hd5 : Below w5.heap.size w5 w5.drew := (Below.refl _ _).drew
              have RZd : Hid (Rd W w5.drew b rb t xB x L' M') := Lib.hid ⟨RZ.out.1.pr.call hd5, RZ.out.1.xa.call hd5, RZ.out.1.kW⟩
              have HLZ := Lib.hid (show L'.length < 1000000 ∧ M'.length < 1000000 by have := RZ.out.2.2; have := RZ.out.2.1.len; have := HLL.out; omega)
              have HAZ := Lib.hid (RZ.out.2.1.asc RZ.out.1.pr.asc)
              have HSP : Hid (Calls Tryd.prog 17 #[.pointer (some ⟨b, 0, none⟩), .int .i64 x.s] w5.drew fun e w' => e = .returned (.int .i64 (sizS M' x.s)) ∧ Below w5.drew.heap.size w5.drew w') := Lib.hid (by rw [← size_same RZ.out.2.1]; exact RZd.out.pr.size x.s)
              clear hd5
              go_region_held3 (fun w' => w'.cell? ⟨xB, 2, none⟩ = some (.int .i64 x.s))
                (first | exact RC.out.xa.cell 2 _ rfl | exact RZd.out.xa.cell 2 _ rfl | exact RZ.out.1.xa.cell 2 _ rfl)
                (first
                  | (go_at_call 17; (with_reducible refine HSP.out.mono ?_); rintro e w6 ⟨rfl, hb⟩; have RC : Hid (Rd W w6 b rb t xB x L' M') := Lib.hid ⟨RZd.out.pr.call hb, RZd.out.xa.call hb, RZd.out.kW⟩; clear hb)
                  | (go_at_call 18; (with_reducible refine (Pr.rsize RC.out.pr HAZ.out HLZ.out.2 x.s).mono ?_); rintro e w7 ⟨rfl, rfl⟩))
              all_goals
                clear RZd HSP y2
                go_upto_region 25 with (go_at_call 19; (with_reducible refine (Pr.used RC.out.pr HLZ.out.1).mono ?_); rintro e w8 ⟨rv, rfl, hrow, hb⟩; have HR8 := Lib.hid hrow; have HB8 := Lib.hid hb; clear hrow hb)
                obtain ⟨ra, rc, rfl, hrc, hra⟩ := hs_of HR8.out
                have RD : Hid (Pr W w8 b rb (fun j => w6.heap.size ≤ j ∧ j < w8.heap.size) L' M') := Lib.hid ((RC.out.pr.fresh HB8.out).mono (fun j hj => .inr hj))
                have HI8 := Lib.hid (hs_is HR8.out)
                have HHL : Hid ((heldA L').length < 1000000 ∧ (heldA L').length ≤ 1000000) := Lib.hid (by
                  obtain ⟨base, tv, rbase, v, hT⟩ := RD.out
                  have := heldA_len L' hT.pk.bd
                  have := RZ.out.2.2
                  omega)
                have HW6 := Lib.hid RC.out.pr.below.size
                clear hra RC HB8
                go_upto_region 27 with (first
                  | (go_at_call 21; (with_reducible refine (Pr.rused RD.out HLZ.out.2).mono ?_); rintro e w9 ⟨rv, rfl, hrow, hb⟩; rw [← RZ.out.2.1.held] at hrow; obtain ⟨rb9, rc9, rfl, hrc9, _⟩ := hs_of hrow; have HI9 := Lib.hid (hs_is hrow); have HB9 := Lib.hid hb; clear hrow hb)
                  | (go_at_call 20; (with_reducible refine (same_hs _ ra rb9 rc rc9 (heldA L') (HI8.out.call HB9.out) HI9.out HHL.out.1).mono ?_); rintro e w10 ⟨rfl, jj, rfl⟩))
                have hbj : Below w8.heap.size w8 (w9.drewN jj) := below_drewN HB9.out jj
                have HRJ := Lib.hid (row_of_block HR8.out (fun g hg => hbj.block g (HR8.out.lt g hg).2))
                have RE := Lib.hid (RD.out.call hbj)
                have HBJ := Lib.hid hbj
                clear hbj
                go_wp2_with (go_at_call 22; refine (over_hs _ _ _ _ _ HRJ.out HHL.out.2).mono ?_; rintro e w11 ⟨⟨uu, rfl⟩, hg⟩; have HG := Lib.hid hg; clear hg)
                have HPZ := Lib.hid (RE.out.over _ (fun g e => ⟨HR8.out.lt g e, Nat.le_trans HW6.out (HR8.out.lt g e).1⟩) HG.out)
                go_roundw
                case rel => exact ⟨t + 1, L', M', by omega, by go_num, Lib.hid ⟨HPZ.out, RZ.out.2.1, RZ.out.2.2⟩⟩
                case measure => first | (simp [intOf]; done) | (simp [intOf]; omega)
          · by_cases d2 : x.d = 2
            · rw [d2] at x0
              clear d0 d1 d2 d3
              obtain ⟨c', hc'⟩ : ∃ y, y = (getR M x.s x.i).getD zC := ⟨_, rfl⟩
              obtain ⟨n', hn'⟩ : ∃ y, y = getN (getR M x.s x.i) := ⟨_, rfl⟩
              have HGP : Hid (Calls Tryd.prog 13 #[.pointer (some ⟨b, 0, none⟩), .agg #[.int .i64 x.s, .int .i64 x.i]] w3 fun e w' => e = .returned (.tuple #[c'.V, .int .i64 n']) ∧ Below w3.heap.size w3 w') := Lib.hid (by rw [hc', hn', ← getR_same HSM.out]; exact Pr.getP R3.out.pr x.s x.i)
              have HGR : Hid (∀ v, Rd W v b rb t xB x L M → Calls Tryd.prog 14 #[.pointer (some ⟨rb, 0, none⟩), .agg #[.int .i64 x.s, .int .i64 x.i]] v fun e w' => e = .returned (.tuple #[c'.V, .int .i64 n']) ∧ Below v.heap.size v w') := Lib.hid (fun v hv => by rw [hc', hn']; exact Pr.rget hv.pr HM0.out HLL.out.2.1 x.s x.i)
              clear hc' hn'
              have x3 := R3.out.xa.cell 3 _ rfl
              clear R3d
              go_upto_region 18 with (go_at_call 13; (with_reducible refine HGP.out.mono ?_); rintro e w4 ⟨rfl, hb⟩; have RA : Hid (Rd W w4 b rb t xB x L M) := Lib.hid ⟨R3.out.pr.call hb, R3.out.xa.call hb, R3.out.kW⟩; clear hb)
              obtain ⟨wA, hwA⟩ : ∃ y, y = w4.alloc (.cells #[.int .i64 c'.a, .int .i64 c'.b, .int .i64 c'.c, .int .u64 c'.d, .int .i64 c'.e, .int .i64 c'.f, .int .i64 c'.g, .int .i64 c'.h] 34) := ⟨_, rfl⟩
              rw [← hwA]
              have hbA : Below w4.heap.size w4 wA := hwA ▸ bal (Below.refl _ _) _
              have RA2 : Hid (Rd W wA b rb t xB x L M) := Lib.hid ⟨RA.out.pr.call hbA, RA.out.xa.call hbA, RA.out.kW⟩
              have HCA : Hid (wA.heap[w4.heap.size]? = some (.cells c'.L.toArray 34 (0, 0))) := Lib.hid (by rw [hwA]; exact heap_alloc_new w4 _)
              generalize w4.heap.size = aB at *
              clear hwA hbA RA R3 HGP x0 x1 x2 x3
              have x2 := RA2.out.xa.cell 2 _ rfl
              have x3 := RA2.out.xa.cell 3 _ rfl
              have hal : aB < wA.heap.size := (Array.getElem?_eq_some_iff.1 HCA.out).1
              go_upto_region 19 with (go_at_call 14; (with_reducible refine (HGR.out _ RA2.out).mono ?_); rintro e w6 ⟨rfl, hb⟩; have RB : Hid (Rd W w6 b rb t xB x L M) := Lib.hid ⟨RA2.out.pr.call hb, RA2.out.xa.call hb, RA2.out.kW⟩; have HCB : Hid (w6.heap[aB]? = some (.cells c'.L.toArray 34 (0, 0))) := Lib.hid ((hb.block aB hal).trans HCA.out); clear hb)
              obtain ⟨w5, hw5⟩ : ∃ y, y = w6.alloc (.cells #[.int .i64 c'.a, .int .i64 c'.b, .int .i64 c'.c, .int .u64 c'.d, .int .i64 c'.e, .int .i64 c'.f, .int .i64 c'.g, .int .i64 c'.h] 34) := ⟨_, rfl⟩
              rw [← hw5]
              have hb5 : Below w6.heap.size w6 w5 := hw5 ▸ bal (Below.refl _ _) _
              have RZ : Hid (Rd W w5 b rb t xB x L M ∧ SameS L M ∧ L.length ≤ t + 1) := Lib.hid ⟨⟨RB.out.pr.call hb5, RB.out.xa.call hb5, RB.out.kW⟩, HSM.out, by have := HLL.out.2.2; omega⟩
              have hcb : w5.heap[w6.heap.size]? = some (.cells c'.L.toArray 34 (0, 0)) := by rw [hw5]; exact heap_alloc_new w6 _
              have hca : w5.heap[aB]? = some (.cells c'.L.toArray 34 (0, 0)) := (hb5.block aB (Array.getElem?_eq_some_iff.1 HCB.out).1).trans HCB.out
              obtain ⟨p0, p1, p2, p3, p4, p5, p6, p7⟩ := cap_cells hca
              obtain ⟨q0, q1, q2, q3, q4, q5, q6, q7⟩ := cap_cells hcb
              generalize w6.heap.size = bB at *
              clear hw5 hb5 hcb hca hal RB RA2 HCA HCB HGR x2 x3
              go_upto_region 22 with (go_at_call 8; (with_reducible refine (num_s _ _).mono ?_); rintro e w7 ⟨rfl, rfl⟩)
              clear p0 p1 p2 p3 p4 p5 p6 p7 q0 q1 q2 q3 q4 q5 q6 q7
              have y2 := RZ.out.1.xa.cell 2 _ rfl
              have hd5 : Below w5.heap.size w5 w5.drew := (Below.refl _ _).drew
              have RZd : Hid (Rd W w5.drew b rb t xB x L M) := Lib.hid ⟨RZ.out.1.pr.call hd5, RZ.out.1.xa.call hd5, RZ.out.1.kW⟩
              have HLZ := Lib.hid (show L.length < 1000000 ∧ M.length < 1000000 by have := RZ.out.2.2; have := RZ.out.2.1.len; have := HLL.out; omega)
              have HAZ := Lib.hid (RZ.out.2.1.asc RZ.out.1.pr.asc)
              have HSP : Hid (Calls Tryd.prog 17 #[.pointer (some ⟨b, 0, none⟩), .int .i64 x.s] w5.drew fun e w' => e = .returned (.int .i64 (sizS M x.s)) ∧ Below w5.drew.heap.size w5.drew w') := Lib.hid (by rw [← size_same RZ.out.2.1]; exact RZd.out.pr.size x.s)
              clear hd5
              go_region_held3 (fun w' => w'.cell? ⟨xB, 2, none⟩ = some (.int .i64 x.s))
                (first | exact RC.out.xa.cell 2 _ rfl | exact RZd.out.xa.cell 2 _ rfl | exact RZ.out.1.xa.cell 2 _ rfl)
                (first
                  | (go_at_call 17; (with_reducible refine HSP.out.mono ?_); rintro e w6 ⟨rfl, hb⟩; have RC : Hid (Rd W w6 b rb t xB x L M) := Lib.hid ⟨RZd.out.pr.call hb, RZd.out.xa.call hb, RZd.out.kW⟩; clear hb)
                  | (go_at_call 18; (with_reducible refine (Pr.rsize RC.out.pr HAZ.out HLZ.out.2 x.s).mono ?_); rintro e w7 ⟨rfl, rfl⟩))
              all_goals
                clear RZd HSP y2
                go_upto_region 25 with (go_at_call 19; (with_reducible refine (Pr.used RC.out.pr HLZ.out.1).mono ?_); rintro e w8 ⟨rv, rfl, hrow, hb⟩; have HR8 := Lib.hid hrow; have HB8 := Lib.hid hb; clear hrow hb)
                obtain ⟨ra, rc, rfl, hrc, hra⟩ := hs_of HR8.out
                have RD : Hid (Pr W w8 b rb (fun j => w6.heap.size ≤ j ∧ j < w8.heap.size) L M) := Lib.hid ((RC.out.pr.fresh HB8.out).mono (fun j hj => .inr hj))
                have HI8 := Lib.hid (hs_is HR8.out)
                have HHL : Hid ((heldA L).length < 1000000 ∧ (heldA L).length ≤ 1000000) := Lib.hid (by
                  obtain ⟨base, tv, rbase, v, hT⟩ := RD.out
                  have := heldA_len L hT.pk.bd
                  have := RZ.out.2.2
                  omega)
                have HW6 := Lib.hid RC.out.pr.below.size
                clear hra RC HB8
                go_upto_region 27 with (first
                  | (go_at_call 21; (with_reducible refine (Pr.rused RD.out HLZ.out.2).mono ?_); rintro e w9 ⟨rv, rfl, hrow, hb⟩; rw [← RZ.out.2.1.held] at hrow; obtain ⟨rb9, rc9, rfl, hrc9, _⟩ := hs_of hrow; have HI9 := Lib.hid (hs_is hrow); have HB9 := Lib.hid hb; clear hrow hb)
                  | (go_at_call 20; (with_reducible refine (same_hs _ ra rb9 rc rc9 (heldA L) (HI8.out.call HB9.out) HI9.out HHL.out.1).mono ?_); rintro e w10 ⟨rfl, jj, rfl⟩))
                have hbj : Below w8.heap.size w8 (w9.drewN jj) := below_drewN HB9.out jj
                have HRJ := Lib.hid (row_of_block HR8.out (fun g hg => hbj.block g (HR8.out.lt g hg).2))
                have RE := Lib.hid (RD.out.call hbj)
                have HBJ := Lib.hid hbj
                clear hbj
                go_wp2_with (go_at_call 22; refine (over_hs _ _ _ _ _ HRJ.out HHL.out.2).mono ?_; rintro e w11 ⟨⟨uu, rfl⟩, hg⟩; have HG := Lib.hid hg; clear hg)
                have HPZ := Lib.hid (RE.out.over _ (fun g e => ⟨HR8.out.lt g e, Nat.le_trans HW6.out (HR8.out.lt g e).1⟩) HG.out)
                go_roundw
                case rel => exact ⟨t + 1, L, M, by omega, by go_num, Lib.hid ⟨HPZ.out, RZ.out.2.1, RZ.out.2.2⟩⟩
                case measure => first | (simp [intOf]; done) | (simp [intOf]; omega)
            · have RZ : Hid (Rd W w3 b rb t xB x L M ∧ SameS L M ∧ L.length ≤ t + 1) := Lib.hid ⟨R3.out, HSM.out, by have := HLL.out.2.2; omega⟩
              clear R3d R3
              generalize w3 = w5 at *
              go_upto_region 22 with fail
              clear x0 x1 x2 d0 d1 d2 d3
              have y2 := RZ.out.1.xa.cell 2 _ rfl
              have hd5 : Below w5.heap.size w5 w5.drew := (Below.refl _ _).drew
              have RZd : Hid (Rd W w5.drew b rb t xB x L M) := Lib.hid ⟨RZ.out.1.pr.call hd5, RZ.out.1.xa.call hd5, RZ.out.1.kW⟩
              have HLZ := Lib.hid (show L.length < 1000000 ∧ M.length < 1000000 by have := RZ.out.2.2; have := RZ.out.2.1.len; have := HLL.out; omega)
              have HAZ := Lib.hid (RZ.out.2.1.asc RZ.out.1.pr.asc)
              have HSP : Hid (Calls Tryd.prog 17 #[.pointer (some ⟨b, 0, none⟩), .int .i64 x.s] w5.drew fun e w' => e = .returned (.int .i64 (sizS M x.s)) ∧ Below w5.drew.heap.size w5.drew w') := Lib.hid (by rw [← size_same RZ.out.2.1]; exact RZd.out.pr.size x.s)
              clear hd5
              go_region_held3 (fun w' => w'.cell? ⟨xB, 2, none⟩ = some (.int .i64 x.s))
                (first | exact RC.out.xa.cell 2 _ rfl | exact RZd.out.xa.cell 2 _ rfl | exact RZ.out.1.xa.cell 2 _ rfl)
                (first
                  | (go_at_call 17; (with_reducible refine HSP.out.mono ?_); rintro e w6 ⟨rfl, hb⟩; have RC : Hid (Rd W w6 b rb t xB x L M) := Lib.hid ⟨RZd.out.pr.call hb, RZd.out.xa.call hb, RZd.out.kW⟩; clear hb)
                  | (go_at_call 18; (with_reducible refine (Pr.rsize RC.out.pr HAZ.out HLZ.out.2 x.s).mono ?_); rintro e w7 ⟨rfl, rfl⟩))
              all_goals
                clear RZd HSP y2
                go_upto_region 25 with (go_at_call 19; (with_reducible refine (Pr.used RC.out.pr HLZ.out.1).mono ?_); rintro e w8 ⟨rv, rfl, hrow, hb⟩; have HR8 := Lib.hid hrow; have HB8 := Lib.hid hb; clear hrow hb)
                obtain ⟨ra, rc, rfl, hrc, hra⟩ := hs_of HR8.out
                have RD : Hid (Pr W w8 b rb (fun j => w6.heap.size ≤ j ∧ j < w8.heap.size) L M) := Lib.hid ((RC.out.pr.fresh HB8.out).mono (fun j hj => .inr hj))
                have HI8 := Lib.hid (hs_is HR8.out)
                have HHL : Hid ((heldA L).length < 1000000 ∧ (heldA L).length ≤ 1000000) := Lib.hid (by
                  obtain ⟨base, tv, rbase, v, hT⟩ := RD.out
                  have := heldA_len L hT.pk.bd
                  have := RZ.out.2.2
                  omega)
                have HW6 := Lib.hid RC.out.pr.below.size
                clear hra RC HB8
                go_upto_region 27 with (first
                  | (go_at_call 21; (with_reducible refine (Pr.rused RD.out HLZ.out.2).mono ?_); rintro e w9 ⟨rv, rfl, hrow, hb⟩; rw [← RZ.out.2.1.held] at hrow; obtain ⟨rb9, rc9, rfl, hrc9, _⟩ := hs_of hrow; have HI9 := Lib.hid (hs_is hrow); have HB9 := Lib.hid hb; clear hrow hb)
                  | (go_at_call 20; (with_reducible refine (same_hs _ ra rb9 rc rc9 (heldA L) (HI8.out.call HB9.out) HI9.out HHL.out.1).mono ?_); rintro e w10 ⟨rfl, jj, rfl⟩))
                have hbj : Below w8.heap.size w8 (w9.drewN jj) := below_drewN HB9.out jj
                have HRJ := Lib.hid (row_of_block HR8.out (fun g hg => hbj.block g (HR8.out.lt g hg).2))
                have RE := Lib.hid (RD.out.call hbj)
                have HBJ := Lib.hid hbj
                clear hbj
                go_wp2_with (go_at_call 22; refine (over_hs _ _ _ _ _ HRJ.out HHL.out.2).mono ?_; rintro e w11 ⟨⟨uu, rfl⟩, hg⟩; have HG := Lib.hid hg; clear hg)
                have HPZ := Lib.hid (RE.out.over _ (fun g e => ⟨HR8.out.lt g e, Nat.le_trans HW6.out (HR8.out.lt g e).1⟩) HG.out)
                go_roundw
                case rel => exact ⟨t + 1, L, M, by omega, by go_num, Lib.hid ⟨HPZ.out, RZ.out.2.1, RZ.out.2.2⟩⟩
                case measure => first | (simp [intOf]; done) | (simp [intOf]; omega)
    · obtain rfl : t = n := by omega
      have HLE := Lib.hid (show L.length < 1000000 ∧ M.length < 1000000 by have := HO.out.len; have := HO.out.same.len; omega)
      have HHL : Hid ((heldA L).length < 1000000) := Lib.hid (by
        obtain ⟨base, tv, rbase, v, hT⟩ := HO.out.pr
        have := heldA_len L hT.pk.bd
        have := HO.out.len
        omega)
      go_wp2_with (first
        | (go_at_call 19; (with_reducible refine (Pr.used HO.out.pr HLE.out.1).mono ?_); rintro e w8 ⟨rv, rfl, hrow, hb⟩; have HR8 := Lib.hid hrow; obtain ⟨ra, rc, rfl, hrc, hra⟩ := hs_of hrow; have RD := Lib.hid (HO.out.pr.call hb); clear hrow hb hra)
        | (go_at_call 21; (with_reducible refine (Pr.rused RD.out HLE.out.2).mono ?_); rintro e w9 ⟨rv, rfl, hrow, hb⟩; rw [← HO.out.same.held] at hrow; obtain ⟨rb9, rc9, rfl, hrc9, _⟩ := hs_of hrow; have HI9 := Lib.hid (hs_is hrow); have HB9 := Lib.hid hb; clear hrow hb)
        | (go_at_call 20; (with_reducible refine (same_hs _ ra rb9 rc rc9 (heldA L) ((hs_is HR8.out).call HB9.out) HI9.out HHL.out).mono ?_); rintro e w10 ⟨rfl, jj, rfl⟩; have HBJ := Lib.hid (RD.out.call (below_drewN HB9.out jj)))
        | (go_at_call 6; (with_reducible refine (SX.awake15 _).mono ?_); rintro e w12 ⟨rfl, hb12⟩))
      go_ret
      exact ⟨rfl, bgo HBJ.out.below hb12⟩
end TabS
end Go.Proofs.YtplanbihejodoaaDoor
