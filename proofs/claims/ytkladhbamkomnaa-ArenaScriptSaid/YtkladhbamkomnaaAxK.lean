/- ArenaScript: the arena and the own answer, act by act. -/
import Derived.Test.YtkladhbamkomnaaAxJ
namespace Go.Proofs.Ytkladhbamkomnaa
set_option linter.unusedVariables false
set_option linter.unusedSimpArgs false
open Go.ChangeShapes Go.WideShapes Go.ChangeAt Go.RowKit Go.Shelf
open TabA
attribute [local go_sem] neSame

theorem obD_ints (o : Option Ob) : ∃ a1 a2 a3 a4 a5 a6 a7 a8 a9 : Int, obD o = .agg #[.int .i64 a1, .int .i64 a2, .int .i64 a3, .int .i64 a4, .int .i64 a5, .int .i64 a6, .int .i64 a7, .int .i64 a8, .int .i64 a9] := by
  cases o with
  | none => exact ⟨_, _, _, _, _, _, _, _, _, rfl⟩
  | some x => exact ⟨_, _, _, _, _, _, _, _, _, rfl⟩
/-- A boxed object. -/
def XC (w : World) (k : Nat) (x : Ob) : Prop := k < w.heap.size ∧ ∀ j u, x.cells[j]? = some u → w.cell? ⟨k, j, none⟩ = some u
theorem XC.call {w w' : World} {k : Nat} {x : Ob} (h : XC w k x) (hb : Below w.heap.size w w') : XC w' k x :=
  ⟨Nat.lt_of_lt_of_le h.1 hb.size, fun j u hj => (hb.cell (p := ⟨k, j, none⟩) h.1).trans (h.2 j u hj)⟩
theorem XC.new (w : World) (x : Ob) : XC (w.alloc (.cells (obA x) 37)) w.heap.size x :=
  ⟨by simp, fun j u hj => (cell_cur (cur := x.cells) (t := 37) (show (w.alloc (.cells (obA x) 37)).heap[w.heap.size]? = some (.cells x.cells.toArray 37 (0, 0)) from heap_alloc_new w _) j).trans hj⟩
theorem XC.all {w : World} {k : Nat} {a1 a2 a3 a4 a5 a6 a7 a8 a9 : Int} (h : XC w k ⟨a1, a2, a3, a4, a5, a6, a7, a8, a9⟩) : w.cell? ⟨k, 0, none⟩ = some (.int .i64 a1) ∧ w.cell? ⟨k, 1, none⟩ = some (.int .i64 a2) ∧ w.cell? ⟨k, 2, none⟩ = some (.int .i64 a3) ∧ w.cell? ⟨k, 3, none⟩ = some (.int .i64 a4) ∧ w.cell? ⟨k, 4, none⟩ = some (.int .i64 a5) ∧ w.cell? ⟨k, 5, none⟩ = some (.int .i64 a6) ∧ w.cell? ⟨k, 6, none⟩ = some (.int .i64 a7) ∧ w.cell? ⟨k, 7, none⟩ = some (.int .i64 a8) ∧ w.cell? ⟨k, 8, none⟩ = some (.int .i64 a9) :=
  ⟨h.2 0 _ rfl, h.2 1 _ rfl, h.2 2 _ rfl, h.2 3 _ rfl, h.2 4 _ rfl, h.2 5 _ rfl, h.2 6 _ rfl, h.2 7 _ rfl, h.2 8 _ rfl⟩
theorem bgo2 {n : Nat} {a b c : World} (h : Below n a b) (k : Below b.heap.size b c) (hn : n ≤ a.heap.size) : Below n a c := h.trans (k.mono (Nat.le_trans hn h.size))
theorem objs_row {w : World} {base : Nat} {ra : Option Addr} {rc : Nat} {L : List Ob} (h : w.ownsRow base 37 9 (.slice ra L.length rc) L.length (objsC L)) : ObsIs w ra L := by
  obtain ⟨ra', rc', e, hrc, hra⟩ := obs_of h
  cases e
  exact hra
theorem list_call {w w' : World} {rb : Nat} {ra : Option Addr} {rc : Nat} {L : List Ob} (h : w.cell? ⟨rb, 1, none⟩ = some (.slice ra L.length rc) ∧ ObsIs w ra L ∧ rb < w.heap.size) (hb : Below w.heap.size w w') : w'.cell? ⟨rb, 1, none⟩ = some (.slice ra L.length rc) ∧ ObsIs w' ra L ∧ rb < w'.heap.size := by
  refine ⟨(hb.cell (p := ⟨rb, 1, none⟩) h.2.2).trans h.1, fun i hi => ?_, Nat.lt_of_lt_of_le h.2.2 hb.size⟩
  obtain ⟨g, e, hg, ho⟩ := h.2.1 i hi
  exact ⟨g, e, Nat.lt_of_lt_of_le hg hb.size, ho.call hg hb⟩
theorem row_call {w w' : World} {base : Nat} {e : TypeId} {s n : Nat} {v : Value} {xs : List Value} (h : w.ownsRow base e s v n xs) (hb : Below w.heap.size w w') : w'.ownsRow base e s v n xs :=
  row_of_block h (fun g hg => hb.block g (h.lt g hg).2)
set_option maxRecDepth 100000 in
set_option maxHeartbeats 2000000 in
theorem script_in (q : Option Addr) (n c : Nat) (D : Nat → ActT) (W : World) (F : Nat) (hF : 1 ≤ F ∧ F ≤ 64) (hn : n ≤ 100) (hD : ActsAt W q n D) :
    Calls Try.prog 3 #[.int .i64 (F : Nat), .slice q n c] W fun e w' => e = .returned (.bool true) ∧ Below W.heap.size W w' := by
  have HD := Lib.hid hD
  have hn' : ¬ (n : Int) > 100 := by omega
  have h1 : ¬ (F : Int) < 1 := by omega
  have h2 : ¬ (64 : Int) < F := by omega
  have H1 := Lib.hid h1
  have H2 := Lib.hid h2
  have HF := Lib.hid hF
  clear hD hF h1 h2
  go_enter Try.func3, Try.ntmps3
  go_upto_region 9 with (first
    | (go_at_call 9; refine (new_any W F HF.out).mono ?_; rintro e w1 ⟨b, rfl, hA⟩; have HA := Lib.hid hA; clear hA)
    | (go_at_call 10; refine (rnew_yes _ F (by have := HF.out; omega) (by have := HF.out; omega)).mono ?_; rintro e w2 ⟨rb, rfl, hR, hb, hrb⟩; have HP := Lib.hid (both_start HA.out hR hb hrb); clear hR hb hrb)
    | (go_at_call 11; refine (num_any _ _).mono ?_; rintro e w3 ⟨rfl, rfl⟩))
  go_wp2
  go_loopw [9] (fun i wr => ∃ t : Nat, t ≤ n ∧ i = .int .i64 t ∧ Hid (Both W wr b rb F (playF F D t).1 (playF F D t).2)) (fun i _ => n - (intOf i).toNat)
  case atStart => exact ⟨0, Nat.zero_le _, rfl, HP⟩
  case round =>
    obtain ⟨t, ht, rfl, HO⟩ := hrel
    clear HP HA
    by_cases hlt : t < n
    · have hltI : (t : Int) < n := by omega
      obtain ⟨aB, aO, hq, hcs⟩ := HD.out
      obtain ⟨rfl, hal⟩ := hq (by omega)
      obtain ⟨hcl, hok⟩ := hcs t hlt
      have hst : playF F D (t + 1) = stepF F (playF F D t) (D t) := rfl
      have hln := playF_len F D t
      have hln1 := playF_len F D (t + 1)
      obtain ⟨⟨xd, xa, xb, xp, xq⟩, hx⟩ : ∃ x, x = D t := ⟨_, rfl⟩
      rw [← hx] at hcl hok hst
      have HDN : Hid (∀ wA, Both W wA b rb F (playF F D t).1 (playF F D t).2 → Calls Try.prog 12 #[.pointer (some ⟨b, 0, none⟩), .pointer (some ⟨rb, 0, none⟩), actV xd xa xb xp xq] wA fun e w' => e = .returned (.bool true) ∧ Both W w' b rb F (playF F D (t + 1)).1 (playF F D (t + 1)).2) := Lib.hid (fun wA h => by rw [hst]; exact done_any ⟨xd, xa, xb, xp, xq⟩ h (by omega) hok)
      have HAC : Hid (∀ wA, Below W.heap.size W wA → ActCells wA aB (aO + t * 5) ⟨xd, xa, xb, xp, xq⟩) := Lib.hid (fun wA hb => by
        obtain ⟨d0, d1, d2, d3, d4⟩ := hcl
        exact ⟨(hb.cell (p := ⟨aB, _, none⟩) hal).trans d0, (hb.cell (p := ⟨aB, _, none⟩) hal).trans d1, (hb.cell (p := ⟨aB, _, none⟩) hal).trans d2, (hb.cell (p := ⟨aB, _, none⟩) hal).trans d3, (hb.cell (p := ⟨aB, _, none⟩) hal).trans d4⟩)
      have HLN := Lib.hid (show (playF F D (t + 1)).2.length < 1000000 ∧ (playF F D (t + 1)).2.length ≤ 1000 by omega)
      have HOd := Lib.hid (HO.out.call (Below.refl _ _).drew)
      clear hq hcs hcl hok hst hx hal hln hln1
      go_upto_region 12 with (fail)
      obtain ⟨c0, c1, c2, c3, c4⟩ := HAC.out wr HO.out.bl
      simp only [] at c0 c1 c2 c3 c4
      go_region_held3 (fun w' => w'.cell? ⟨aB, aO + t * 5, none⟩ = some (.int .i64 xd) ∧ w'.cell? ⟨aB, aO + t * 5 + 1, none⟩ = some (.int .i64 xa) ∧ w'.cell? ⟨aB, aO + t * 5 + 2, none⟩ = some (.int .i64 xb) ∧ w'.cell? ⟨aB, aO + t * 5 + 3, none⟩ = some (.int .i64 xp) ∧ w'.cell? ⟨aB, aO + t * 5 + 4, none⟩ = some (.int .i64 xq))
        (first | exact HAC.out _ HP2.out.bl | exact HAC.out _ HOd.out.bl | exact HAC.out _ HO.out.bl)
        (first
          | (go_at_call 12; (with_reducible refine (HDN.out _ HOd.out).mono ?_); rintro e w2 ⟨rfl, hP2⟩; have HP2 := Lib.hid hP2; clear hP2)
          | (go_at_call 13; (with_reducible refine (HP2.out.next xp).mono ?_); rintro e w3 ⟨rfl, rfl⟩)
          | (go_at_call 14; (with_reducible refine (HP2.out.rnext xp).mono ?_); rintro e w3 ⟨rfl, rfl⟩))
      all_goals
        obtain ⟨s, hs⟩ : ∃ s, s = playF F D (t + 1) := ⟨_, rfl⟩
        rw [← hs] at HP2 HLN
        have HS := Lib.hid hs
        clear hs HDN HOd
        obtain ⟨a1, a2, a3, a4, a5, a6, a7, a8, a9, hob⟩ := obD_ints (getO s.2 xa)
        obtain ⟨gs, hgs⟩ : ∃ z, (getO s.2 xa).isSome = z := ⟨_, rfl⟩
        have HOB := Lib.hid hob
        have HGS := Lib.hid hgs
        clear hob hgs
        go_upto_region 14 with (fail)
        obtain ⟨p0, p1, p2, p3, p4⟩ := HAC.out w3 HP2.out.bl
        simp only [] at p1
        clear p0 p2 p3 p4
        go_upto_region 15 with (go_at_call 15; (with_reducible refine (HP2.out.get xa).mono ?_); rw [HOB.out, HGS.out]; rintro e w4 ⟨rfl, hb4⟩; have HP4 := Lib.hid (HP2.out.call hb4))
        obtain ⟨w5, hw5⟩ : ∃ y, y = w4.alloc (.cells #[.int .i64 a1, .int .i64 a2, .int .i64 a3, .int .i64 a4, .int .i64 a5, .int .i64 a6, .int .i64 a7, .int .i64 a8, .int .i64 a9] 37) := ⟨_, rfl⟩
        rw [← hw5]
        have HX5 : Hid (XC w5 w4.heap.size ⟨a1, a2, a3, a4, a5, a6, a7, a8, a9⟩) := Lib.hid (by rw [hw5]; exact XC.new w4 ⟨a1, a2, a3, a4, a5, a6, a7, a8, a9⟩)
        have HP5 := Lib.hid (HP4.out.call (show Below w4.heap.size w4 w5 by rw [hw5]; exact bal (Below.refl _ _) _))
        clear hw5 p1 hb4
        generalize w4.heap.size = xB at *
        obtain ⟨p0, p1, p2, p3, p4⟩ := HAC.out w5 HP5.out.bl
        simp only [] at p1
        clear p0 p2 p3 p4
        go_upto_region 16 with (go_at_call 16; (with_reducible refine (HP5.out.rget xa HLN.out.1).mono ?_); rw [HOB.out, HGS.out]; rintro e w6 ⟨rfl, hb6⟩; have HP6 := Lib.hid (HP5.out.call hb6); have HX6 := Lib.hid (HX5.out.call hb6))
        obtain ⟨w7, hw7⟩ : ∃ y, y = w6.alloc (.cells #[.int .i64 a1, .int .i64 a2, .int .i64 a3, .int .i64 a4, .int .i64 a5, .int .i64 a6, .int .i64 a7, .int .i64 a8, .int .i64 a9] 37) := ⟨_, rfl⟩
        rw [← hw7]
        have HY7 : Hid (XC w7 w6.heap.size ⟨a1, a2, a3, a4, a5, a6, a7, a8, a9⟩) := Lib.hid (by rw [hw7]; exact XC.new w6 ⟨a1, a2, a3, a4, a5, a6, a7, a8, a9⟩)
        have h67 : Below w6.heap.size w6 w7 := by rw [hw7]; exact bal (Below.refl _ _) _
        have HP7 := Lib.hid (HP6.out.call h67)
        have HX7 := Lib.hid (HX6.out.call h67)
        clear hw7 p1 hb6 h67
        generalize w6.heap.size = yB at *
        go_upto_region 17 with (go_at_call 17; (with_reducible refine (HP7.out.all HLN.out.1).mono ?_); rintro e w8 ⟨r, rfl, hR, hb8⟩; have HR := Lib.hid hR; have HB8 := Lib.hid hb8; clear hR hb8)
        obtain ⟨ra, rc, rfl, hrc, hra⟩ := obs_of HR.out
        have HRA := Lib.hid (show ObsIs w8 ra s.2 from hra)
        obtain ⟨la, lc, hl1, hl2, hl3⟩ := (HP7.out.call HB8.out).list
        have HLA := Lib.hid hl2
        obtain ⟨x0, x1, x2, x3, x4, x5, x6, x7, x8⟩ := (HX7.out.call HB8.out).all
        obtain ⟨y0, y1, y2, y3, y4, y5, y6, y7, y8⟩ := (HY7.out.call HB8.out).all
        clear hra hl2 hrc
        go_wp2_with (first
          | (go_at_call 18; (with_reducible refine (same_objs w8 _ _ _ _ s.2 HRA.out HLA.out HLN.out.1).mono ?_); rintro e w9 ⟨rfl, j9, rfl⟩)
          | (go_at_call 19; (with_reducible refine (over_objs _ _ s.2.length (objsC s.2) _ (row_call HR.out (below_drewN (Below.refl _ _) j9)) HLN.out.2).mono ?_); rintro e w10 ⟨⟨r10, rfl⟩, hg10⟩; have HB10 := Lib.hid (grown_below (n := w7.heap.size) hg10 (fun k e => (HR.out.lt k e).1) HB8.out.size)))
        go_roundw
        case rel => exact ⟨t + 1, by omega, by go_num, Lib.hid (HS.out ▸ HP7.out.call ((HB8.out.trans (below_drewN (Below.refl _ _) j9)).trans HB10.out))⟩
        case measure => first | (simp [intOf]; done) | (simp [intOf]; omega)
    · obtain rfl : t = n := by omega
      have hln := playF_len F D t
      have HLN := Lib.hid (show (playF F D t).2.length < 1000000 ∧ (playF F D t).2.length ≤ 1000 by omega)
      obtain ⟨s, hs⟩ : ∃ s, s = playF F D t := ⟨_, rfl⟩
      rw [← hs] at HO HLN
      clear hs hln
      have HOd := Lib.hid (HO.out.call (Below.refl _ _).drew)
      obtain ⟨la, lc, hl⟩ := HOd.out.list
      have HLd := Lib.hid hl
      clear hl
      go_upto_region 20 with (fail)
      have r1 : wr.cell? ⟨rb, 1, none⟩ = some (.slice la s.2.length lc) := HLd.out.1
      go_region_held3 (fun w' => w'.cell? ⟨rb, 1, none⟩ = some (.slice la s.2.length lc))
        (first | exact HL21.out.1 | exact HL20.out.1 | exact HLd.out.1 | exact r1)
        (first
          | (go_at_call 8; (with_reducible refine (awake12 _).mono ?_); rintro e w22 ⟨rfl, hb22⟩; have HB22 := Lib.hid (bgo2 HB21.out hb22 (Nat.le_refl _)); have HL21 := Lib.hid (list_call HL21.out hb22); clear hb22)
          | (go_at_call 18; (with_reducible refine (same_objs _ _ _ _ _ s.2 (objs_row HAL.out) HL20.out.2.1 HLN.out.1).mono ?_); rintro e w21 ⟨rfl, j21, rfl⟩; have HB21 := Lib.hid (HB20.out.trans (below_drewN (Below.refl _ _) j21)); have HL21 := Lib.hid (list_call HL20.out (below_drewN (Below.refl _ _) j21)))
          | (go_at_call 17; (with_reducible refine (HOd.out.all HLN.out.1).mono ?_); rintro e w20 ⟨r, rfl, ha, hb20⟩; obtain ⟨ra, rc, rfl, hrc, hra⟩ := obs_of ha; have HAL := Lib.hid ha; have HL20 := Lib.hid (list_call HLd.out hb20); have HB20 := Lib.hid (bgo2 HOd.out.bl hb20 (Nat.le_refl _)); clear hb20 ha hrc hra))
      all_goals
        go_wp2
        go_ret
        exact ⟨rfl, HB22.out⟩
end Go.Proofs.Ytkladhbamkomnaa
