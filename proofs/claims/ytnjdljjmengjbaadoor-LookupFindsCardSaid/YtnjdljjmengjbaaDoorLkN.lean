/- LookupFinds. -/
import Derived.Test.YtnjdljjmengjbaaDoorPkj
namespace Go.Proofs.YtnjdljjmengjbaaDoor
set_option linter.unusedVariables false
set_option linter.unusedSimpArgs false
open Go.ChangeShapes Go.WideShapes Go.ChangeAt Go.RowKit Go.Shelf

namespace LkS
open TabS (Cp Sn zC mayC sizS getR Two Pr SlotsAt SameS RefS rowsS hasS)
theorem num_lk (x : Int) (w : World) : Calls Tryd.prog 14 #[.int .i64 x] w fun e w' => e = .returned (.int .i64 x) ∧ w = w' := by
  go_enter Tryd.func14, Tryd.ntmps14
  go_wp2
  go_ret
  exact ⟨rfl, by trivial⟩
theorem asc5 : Asc (rowsO (stO 5).2) := by
  unfold Asc
  decide +kernel
theorem RmP.seesR {W w : World} {sb srb b rb : Nat} {L0 M0 : List Sn} (h : RmP W w sb srb b rb L0 M0) : ∃ M, SeesR w srb rb M (stO 5).2 ∧ SameS M M0 := by
  obtain ⟨L, M, G, ⟨ab, base, rbase, v, u, hP, ⟨b0, tv, rb0, v0, hS⟩⟩, h3, h4, h5, h6, h7⟩ := h
  exact ⟨M, ⟨⟨rb0, v0, hS.rf⟩, h4.symm.asc h7, by rw [h4.len, h6]; decide, ⟨rbase, 16, u, G, hP.rf⟩, asc5, stO_len 5 (by decide)⟩, h4⟩
theorem RmP.rresolve {W w : World} {sb srb b rb : Nat} {L0 M0 : List Sn} (h : RmP W w sb srb b rb L0 M0) (c : Cp) (a : Nat) (d : Int) (ha : a < 2 ^ 64) :
    Calls Tryd.prog 11 #[.pointer (some ⟨srb, 0, none⟩), .pointer (some ⟨rb, 0, none⟩), c.V, .int .u64 a, .int .i64 d] w fun e w' => e = .returned (.tuple #[.agg #[.int .i64 (resR M0 (stO 5).2 c a d).1, .int .i64 (resR M0 (stO 5).2 c a d).2.1], .int .i64 (resR M0 (stO 5).2 c a d).2.2]) ∧ Below w.heap.size w w' := by
  obtain ⟨M, hs, hl⟩ := h.seesR
  rw [← resR_same hl]
  exact rresolve_any w srb rb M _ c a d hs rad5 ha
theorem RmP.rpath {W w : World} {sb srb b rb : Nat} {L0 M0 : List Sn} (h : RmP W w sb srb b rb L0 M0) (c : Cp) (a : Nat) (d : Int) (ha : a < 2 ^ 64) :
    Calls Tryd.prog 13 #[.pointer (some ⟨srb, 0, none⟩), .pointer (some ⟨rb, 0, none⟩), c.V, .int .u64 a, .int .i64 d] w fun e w' => ∃ v, e = .returned (.tuple #[v, .int .i64 (resR M0 (stO 5).2 c a d).2.2]) ∧ w'.ownsRow w.heap.size 34 2 v (pathR M0 (stO 5).2 c a d).length (slC (pathR M0 (stO 5).2 c a d)) ∧ Below w.heap.size w w' := by
  obtain ⟨M, hs, hl⟩ := h.seesR
  rw [← resR_same hl, ← pathR_same hl, ← codR_eq]
  exact rpath_any w srb rb M _ c a d hs rad5 ha
theorem path_three (L : List Sn) (O : List Ob) (c : Cp) (a : Nat) (d : Int) (h : (resR L O c a d).2.2 = 3) : pathR L O c a d = [] := by
  unfold pathR
  by_cases hk : chkN a d = 0
  · unfold resR at h
    rw [if_pos hk] at h
    cases hr : resP (pathP L O a d.toNat c d.toNat) with
    | none => rw [hr] at h; cases h
    | some p => rw [hr] at h; cases h
  · rw [if_neg hk]
end LkS

open LkS in
set_option maxRecDepth 100000 in
set_option maxHeartbeats 2000000 in
theorem walk_lookupFinds {W : World} (q : Option Addr) (n c0 : Nat) (hx : n ≤ c0 ∧ c0 ≤ maxLen ∧ ∃ D, PutsAt W q n D) (c : TabS.Cp) (w1 : TabS.InS c.e) (a2 : Int) (w2 : (Lit.int .u64 a2).wf = true) (d : Int) (w3 : (Lit.int .i64 d).wf = true) (hL : LaidV_laid_math_bits_deBruijn64tab W) :
    Calls Tryd.prog 3 #[.slice q n c0, c.V, .int .u64 a2, .int .i64 d] W fun e w' => e = .returned (.bool true) ∧ Below W.heap.size W w' := by
  obtain ⟨h1, h2, D, hD⟩ := hx
  unfold maxLen at h2
  obtain ⟨a, rfl, ha⟩ := u64_in w2
  have HT : Hid (CX.TabG W) := Lib.hid hL
  have hal : Below W.heap.size W (W.alloc (.cells #[.int .i64 c.a, .int .i64 c.b, .int .i64 c.c, .int .u64 c.d, .int .i64 c.e, .int .i64 c.f, .int .i64 c.g, .int .i64 c.h] 25)) := bal (Below.refl _ _) _
  have HTA := Lib.hid (HT.out.call hal)
  have HAL := Lib.hid hal
  by_cases hn : n ≤ 40
  · have HROOM := Lib.hid (room_any _ q n c0 D hn (hD.below hal) HTA.out)
    have hnI : ¬ (n : Int) > 40 := by omega
    have hc0 : (W.alloc (.cells c.L.toArray 25)).heap[W.heap.size]? = some (.cells c.L.toArray 25 (0, 0)) := heap_alloc_new W _
    have HC0 := Lib.hid hc0
    have HAA := Lib.hid ha
    have HE := Lib.hid w1.2
    have HCP := Lib.hid (caps_play D n)
    have HP12 := Lib.hid (pathR_len (L := playP D n) (c := c) (a := a) (d := d) rad5)
    have HP3 := Lib.hid (path_three (playP D n) (stO 5).2 c a d)
    clear hD hal hc0 ha w1 w2 w3 hL h1 h2
    go_enter Tryd.func3, Tryd.ntmps3
    go_upto_region 6 with (go_at_call 9; (with_reducible refine HROOM.out.mono ?_); rintro e w1 ⟨sb, srb, b, rb, rfl, h1⟩; have H1 := Lib.hid h1; clear h1)
    have HBW1 := Lib.hid (HAL.out.trans (H1.out.below.mono HAL.out.size))
    have HC1 := Lib.hid ((H1.out.below.block W.heap.size (by simp)).trans HC0.out)
    have HX1 : Hid (W.heap.size < w1.heap.size) := Lib.hid (Array.getElem?_eq_some_iff.1 HC1.out).1
    obtain ⟨xB, hxB⟩ : ∃ x, x = W.heap.size := ⟨_, rfl⟩
    rw [← hxB] at HC1 HX1 ⊢
    obtain ⟨WA, hWA⟩ : ∃ x, x = W.alloc (.cells #[.int .i64 c.a, .int .i64 c.b, .int .i64 c.c, .int .u64 c.d, .int .i64 c.e, .int .i64 c.f, .int .i64 c.g, .int .i64 c.h] 25) := ⟨_, rfl⟩
    rw [← hWA] at H1 HTA
    have RR := Lib.hid (H1.out.resolve HTA.out HCP.out c a d HE.out HAA.out)
    have RQ : Hid (∀ v, Below w1.heap.size w1 v → Calls Tryd.prog 11 #[.pointer (some ⟨srb, 0, none⟩), .pointer (some ⟨rb, 0, none⟩), c.V, .int .u64 a, .int .i64 d] v fun e w' => e = .returned (.tuple #[.agg #[.int .i64 (resR (playP D n) (stO 5).2 c a d).1, .int .i64 (resR (playP D n) (stO 5).2 c a d).2.1], .int .i64 (resR (playP D n) (stO 5).2 c a d).2.2]) ∧ Below v.heap.size v w') := Lib.hid (fun v (hv : Below w1.heap.size w1 v) => (H1.out.call hv).rresolve c a d HAA.out)
    have PP : Hid (∀ v, Below w1.heap.size w1 v → Calls Tryd.prog 12 #[.pointer (some ⟨sb, 0, none⟩), .pointer (some ⟨b, 0, none⟩), c.V, .int .u64 a, .int .i64 d] v fun e w' => ∃ u, e = .returned u ∧ w'.ownsRow v.heap.size 34 2 u (pathR (playP D n) (stO 5).2 c a d).length (slC (pathR (playP D n) (stO 5).2 c a d)) ∧ Below v.heap.size v w') := Lib.hid (fun v (hv : Below w1.heap.size w1 v) => (H1.out.call hv).path HTA.out HCP.out c a d HE.out HAA.out)
    have PQ : Hid (∀ v, Below w1.heap.size w1 v → Calls Tryd.prog 13 #[.pointer (some ⟨srb, 0, none⟩), .pointer (some ⟨rb, 0, none⟩), c.V, .int .u64 a, .int .i64 d] v fun e w' => ∃ u, e = .returned (.tuple #[u, .int .i64 (resR (playP D n) (stO 5).2 c a d).2.2]) ∧ w'.ownsRow v.heap.size 34 2 u (pathR (playP D n) (stO 5).2 c a d).length (slC (pathR (playP D n) (stO 5).2 c a d)) ∧ Below v.heap.size v w') := Lib.hid (fun v (hv : Below w1.heap.size w1 v) => (H1.out.call hv).rpath c a d HAA.out)
    obtain ⟨R1, hR1⟩ : ∃ x, x = (resR (playP D n) (stO 5).2 c a d).1 := ⟨_, rfl⟩
    obtain ⟨R2, hR2⟩ : ∃ x, x = (resR (playP D n) (stO 5).2 c a d).2.1 := ⟨_, rfl⟩
    obtain ⟨R3, hR3⟩ : ∃ x, x = (resR (playP D n) (stO 5).2 c a d).2.2 := ⟨_, rfl⟩
    obtain ⟨P, hP⟩ : ∃ x, x = pathR (playP D n) (stO 5).2 c a d := ⟨_, rfl⟩
    rw [← hR1, ← hR2, ← hR3] at RR RQ
    rw [← hR3, ← hP] at PQ HP3
    rw [← hP] at HP12 PP
    clear hxB HC0 HAL hWA HROOM hR1 hR2 hR3 hP HCP HE HAA H1 HTA
    obtain ⟨x0, x1, x2, x3, x4, x5, x6, x7⟩ := cap_cells HC1.out
    go_upto_region 7 with (go_at_call 10; (with_reducible refine RR.out.mono ?_); rintro e w2 ⟨rfl, hb2⟩; have HB2 := Lib.hid hb2; clear hb2)
    obtain ⟨w3, hw3⟩ : ∃ y, y = w2.alloc (.cells #[.int .i64 R1, .int .i64 R2] 34) := ⟨_, rfl⟩
    have hb3 : Below w1.heap.size w1 w3 := hw3 ▸ bal HB2.out _
    have hs3 : w3.heap[w2.heap.size]? = some (.cells #[.int .i64 R1, .int .i64 R2] 34 (0, 0)) := by rw [hw3]; exact heap_alloc_new w2 _
    rw [← hw3]
    have HB3 := Lib.hid hb3
    have HC3 := Lib.hid ((hb3.block xB HX1.out).trans HC1.out)
    have HS3 := Lib.hid hs3
    have Q3 := Lib.hid (RQ.out w3 hb3)
    clear x0 x1 x2 x3 x4 x5 x6 x7
    obtain ⟨x0, x1, x2, x3, x4, x5, x6, x7⟩ := cap_cells HC3.out
    generalize w2.heap.size = yB at *
    clear hw3 hb3 hs3 HC1 HB2 RR RQ
    go_upto_region 8 with (go_at_call 11; (with_reducible refine Q3.out.mono ?_); rintro e w4 ⟨rfl, hb4⟩; have HB4 := Lib.hid hb4; clear hb4)
    obtain ⟨w5, hw5⟩ : ∃ y, y = w4.alloc (.cells #[.int .i64 R1, .int .i64 R2] 34) := ⟨_, rfl⟩
    have hb5 : Below w3.heap.size w3 w5 := hw5 ▸ bal HB4.out _
    have hs5 : w5.heap[w4.heap.size]? = some (.cells #[.int .i64 R1, .int .i64 R2] 34 (0, 0)) := by rw [hw5]; exact heap_alloc_new w4 _
    rw [← hw5]
    have HB5 := Lib.hid (HB3.out.trans (hb5.mono HB3.out.size))
    have HC5 := Lib.hid ((HB5.out.block xB HX1.out).trans (((HB3.out.block xB HX1.out).symm).trans HC3.out))
    have HY5 := Lib.hid ((hb5.block yB (Array.getElem?_eq_some_iff.1 HS3.out).1).trans HS3.out)
    have HZ5 := Lib.hid hs5
    have P5 := Lib.hid (PP.out w5 HB5.out)
    clear x0 x1 x2 x3 x4 x5 x6 x7
    obtain ⟨x0, x1, x2, x3, x4, x5, x6, x7⟩ := cap_cells HC5.out
    generalize w4.heap.size = zB at *
    clear hw5 hb5 hs5 HC3 HB4 HS3 Q3 HB3
    go_upto_region 9 with (go_at_call 12; (with_reducible refine P5.out.mono ?_); rintro e w6 ⟨pv, rfl, hrow, hb6⟩; have HPR := Lib.hid hrow; have HB6 := Lib.hid hb6; clear hrow hb6)
    have HBW6 := Lib.hid (HB5.out.trans (HB6.out.mono HB5.out.size))
    have HC6 := Lib.hid ((HB6.out.block xB (Array.getElem?_eq_some_iff.1 HC5.out).1).trans HC5.out)
    have HY6 := Lib.hid ((HB6.out.block yB (Array.getElem?_eq_some_iff.1 HY5.out).1).trans HY5.out)
    have HZ6 := Lib.hid ((HB6.out.block zB (Array.getElem?_eq_some_iff.1 HZ5.out).1).trans HZ5.out)
    have HS15 : Hid (w1.heap.size ≤ w5.heap.size) := Lib.hid HB5.out.size
    have Q6 := Lib.hid (PQ.out w6 HBW6.out)
    clear x0 x1 x2 x3 x4 x5 x6 x7 HC5 HY5 HZ5 P5 HB5 HB6
    obtain ⟨x0, x1, x2, x3, x4, x5, x6, x7⟩ := cap_cells HC6.out
    go_upto_region 10 with (go_at_call 13; (with_reducible refine Q6.out.mono ?_); rintro e w7 ⟨qv, rfl, hrow, hb7⟩; have HQR := Lib.hid hrow; have HB7 := Lib.hid hb7; clear hrow hb7)
    have HBW7 := Lib.hid (HBW6.out.trans (HB7.out.mono HBW6.out.size))
    have HC7 := Lib.hid ((HB7.out.block xB (Array.getElem?_eq_some_iff.1 HC6.out).1).trans HC6.out)
    have HY7 := Lib.hid ((HB7.out.block yB (Array.getElem?_eq_some_iff.1 HY6.out).1).trans HY6.out)
    have HZ7 := Lib.hid ((HB7.out.block zB (Array.getElem?_eq_some_iff.1 HZ6.out).1).trans HZ6.out)
    have HPR7 := Lib.hid (row_call HPR.out HB7.out)
    have HPB : Hid (∀ g, pv.ownBlock = some g → w5.heap.size ≤ g ∧ g < w6.heap.size) := Lib.hid (fun g hg => ⟨(own_of HPR.out hg).1, (by
      obtain ⟨_, cur, e⟩ := own_of HPR.out hg
      exact (Array.getElem?_eq_some_iff.1 e).1)⟩)
    have HQA : Hid (∀ x : World, w7.heap.size ≤ x.heap.size → (∀ g, w6.heap.size ≤ g → g < w7.heap.size → x.heap[g]? = w7.heap[g]?) → RowF x qv P) := Lib.hid (fun x hs hg => rowF_of (TabS.row_of_block HQR.out (fun g e => hg g (own_of HQR.out e).1 (by
      obtain ⟨_, cur, e⟩ := own_of HQR.out e
      exact (Array.getElem?_eq_some_iff.1 e).1))) rfl)
    have HQN : Hid (R3 = 3 → ∀ x : World, RowF x (.slice none 0 0) P) := Lib.hid (fun e x => by
      have := HP3.out e.symm.symm
      exact ⟨none, 0, by rw [this]; rfl, fun k p hk => by rw [this] at hk; cases hk⟩)
    clear x0 x1 x2 x3 x4 x5 x6 x7 HC6 HY6 HZ6 Q6 HBW6 HPR HQR PQ HP3
    obtain ⟨y0, y1, -, -⟩ := slot_cells HY7.out
    obtain ⟨z0, z1, -, -⟩ := slot_cells HZ7.out
    have hne := neSelf R1 R2
    have hn3 : (R3 != R3) = false := by simp
    by_cases h3 : R3 = 3
    · have HQX : Hid (∀ x : World, w7.heap.size ≤ x.heap.size → (∀ g, w6.heap.size ≤ g → g < w7.heap.size → x.heap[g]? = w7.heap[g]?) → RowF x (.slice none 0 0) P) := Lib.hid (fun x _ _ => HQN.out h3 x)
      clear HQA HQN
      subst h3
      have SS8 := Lib.hid (fun (v : World) (hb : Below w7.heap.size w7 v) => same_true v pv _ P (rowF_of (row_call HPR7.out hb) rfl) (HQX.out v hb.size (fun g _ hl => hb.block g hl)) HP12.out)
      go_upto_region 14 with (first
        | (go_at_call 14; (with_reducible refine (num_lk _ _).mono ?_); rintro e w8 ⟨rfl, rfl⟩)
        | (go_at_call 15; (with_reducible refine (SS8.out _ (Below.refl _ _)).mono ?_); rintro e w8 ⟨rfl, hb8⟩; have HB8 := Lib.hid hb8; clear hb8))
      have OV8 := Lib.hid (over_slots w8 pv P.length (slC P) (own_weak (row_call HPR7.out HB8.out) (Nat.zero_le _)) (by have := HP12.out; omega))
      have HBW8 := Lib.hid (HBW7.out.trans (HB8.out.mono HBW7.out.size))
      have HC8 := Lib.hid ((HB8.out.block xB (Array.getElem?_eq_some_iff.1 HC7.out).1).trans HC7.out)
      have HX8 : Hid (w6.heap.size ≤ w7.heap.size ∧ w7.heap.size ≤ w8.heap.size) := Lib.hid ⟨HB7.out.size, HB8.out.size⟩
      clear y0 y1 z0 z1 SS8
      go_upto_region 15 with (go_at_call 16; (with_reducible refine OV8.out.mono ?_); rintro e w9 ⟨⟨r9, rfl⟩, hg9⟩; have HG9 := Lib.hid hg9; clear hg9)
      have hb9 : Below w1.heap.size w1 w9 := HBW8.out.trans (grown_below HG9.out (fun k e => by have := (HPB.out k e).1; have := HS15.out; omega) HBW8.out.size)
      have hc9 := (HG9.out.block xB (Array.getElem?_eq_some_iff.1 HC8.out).1 (fun e => by have := (HPB.out _ e.symm).1; have := HS15.out; have := HX1.out; omega)).trans HC8.out
      have HQ9 : Hid (∀ v : World, Below w9.heap.size w9 v → RowF v _ P) := Lib.hid (fun v hb => HQX.out v (by have := hb.size; have := HG9.out.size; have := HX8.out; omega) (fun g h1 h2 => (hb.block g (by have := HG9.out.size; have := HX8.out; omega)).trans ((HG9.out.block g (by have := HX8.out; omega) (fun e => by have := (HPB.out _ e.symm).2; omega)).trans (HB8.out.block g h2))))
      have P9 := Lib.hid (PP.out w9 hb9)
      have HBW9 := Lib.hid (HBW1.out.trans (hb9.mono HBW1.out.size))
      obtain ⟨x0, x1, x2, x3, x4, x5, x6, x7⟩ := cap_cells hc9
      clear hb9 hc9 PP HC8 HC7 HY7 HZ7 HPR7 HQX OV8 HG9
      go_wp2_with (first
        | (go_at_call 12; (with_reducible refine P9.out.mono ?_); rintro e w10 ⟨nv, rfl, hrow, hb10⟩; have HNR := Lib.hid hrow; have HB10 := Lib.hid hb10; have SS10 := Lib.hid (same_true w10 nv _ P (rowF_of hrow rfl) (HQ9.out w10 hb10) HP12.out); clear hrow hb10)
        | (go_at_call 15; (with_reducible refine SS10.out.mono ?_); rintro e w11 ⟨rfl, hb11⟩; have HB11 := Lib.hid (HB10.out.trans (hb11.mono HB10.out.size)); have HBW11 := Lib.hid (HBW9.out.trans (HB11.out.mono HBW9.out.size)); have HT11 := Lib.hid (HT.out.call HBW11.out); clear hb11)
        | (go_at_call 8; (with_reducible refine (awake16 _ HT11.out).mono ?_); rintro e w12 ⟨rfl, hb12⟩))
      go_ret
      exact ⟨rfl, HBW11.out.trans (hb12.mono HBW11.out.size)⟩
    · have HQX := HQA
      clear HQA HQN
      have SS8 := Lib.hid (fun (v : World) (hb : Below w7.heap.size w7 v) => same_true v pv _ P (rowF_of (row_call HPR7.out hb) rfl) (HQX.out v hb.size (fun g _ hl => hb.block g hl)) HP12.out)
      go_upto_region 14 with (first
        | (go_at_call 14; (with_reducible refine (num_lk _ _).mono ?_); rintro e w8 ⟨rfl, rfl⟩)
        | (go_at_call 15; (with_reducible refine (SS8.out _ (Below.refl _ _)).mono ?_); rintro e w8 ⟨rfl, hb8⟩; have HB8 := Lib.hid hb8; clear hb8))
      have OV8 := Lib.hid (over_slots w8 pv P.length (slC P) (own_weak (row_call HPR7.out HB8.out) (Nat.zero_le _)) (by have := HP12.out; omega))
      have HBW8 := Lib.hid (HBW7.out.trans (HB8.out.mono HBW7.out.size))
      have HC8 := Lib.hid ((HB8.out.block xB (Array.getElem?_eq_some_iff.1 HC7.out).1).trans HC7.out)
      have HX8 : Hid (w6.heap.size ≤ w7.heap.size ∧ w7.heap.size ≤ w8.heap.size) := Lib.hid ⟨HB7.out.size, HB8.out.size⟩
      clear y0 y1 z0 z1 SS8
      go_upto_region 15 with (go_at_call 16; (with_reducible refine OV8.out.mono ?_); rintro e w9 ⟨⟨r9, rfl⟩, hg9⟩; have HG9 := Lib.hid hg9; clear hg9)
      have hb9 : Below w1.heap.size w1 w9 := HBW8.out.trans (grown_below HG9.out (fun k e => by have := (HPB.out k e).1; have := HS15.out; omega) HBW8.out.size)
      have hc9 := (HG9.out.block xB (Array.getElem?_eq_some_iff.1 HC8.out).1 (fun e => by have := (HPB.out _ e.symm).1; have := HS15.out; have := HX1.out; omega)).trans HC8.out
      have HQ9 : Hid (∀ v : World, Below w9.heap.size w9 v → RowF v _ P) := Lib.hid (fun v hb => HQX.out v (by have := hb.size; have := HG9.out.size; have := HX8.out; omega) (fun g h1 h2 => (hb.block g (by have := HG9.out.size; have := HX8.out; omega)).trans ((HG9.out.block g (by have := HX8.out; omega) (fun e => by have := (HPB.out _ e.symm).2; omega)).trans (HB8.out.block g h2))))
      have P9 := Lib.hid (PP.out w9 hb9)
      have HBW9 := Lib.hid (HBW1.out.trans (hb9.mono HBW1.out.size))
      obtain ⟨x0, x1, x2, x3, x4, x5, x6, x7⟩ := cap_cells hc9
      clear hb9 hc9 PP HC8 HC7 HY7 HZ7 HPR7 HQX OV8 HG9
      go_wp2_with (first
        | (go_at_call 12; (with_reducible refine P9.out.mono ?_); rintro e w10 ⟨nv, rfl, hrow, hb10⟩; have HNR := Lib.hid hrow; have HB10 := Lib.hid hb10; have SS10 := Lib.hid (same_true w10 nv _ P (rowF_of hrow rfl) (HQ9.out w10 hb10) HP12.out); clear hrow hb10)
        | (go_at_call 15; (with_reducible refine SS10.out.mono ?_); rintro e w11 ⟨rfl, hb11⟩; have HB11 := Lib.hid (HB10.out.trans (hb11.mono HB10.out.size)); have HBW11 := Lib.hid (HBW9.out.trans (HB11.out.mono HBW9.out.size)); have HT11 := Lib.hid (HT.out.call HBW11.out); clear hb11)
        | (go_at_call 8; (with_reducible refine (awake16 _ HT11.out).mono ?_); rintro e w12 ⟨rfl, hb12⟩))
      go_ret
      exact ⟨rfl, HBW11.out.trans (hb12.mono HBW11.out.size)⟩
  · have hnI : (n : Int) > 40 := by omega
    clear hD w1 w2 w3 hL h1 h2 ha hal
    go_enter Tryd.func3, Tryd.ntmps3
    go_wp2_with (go_at_call 8; (with_reducible refine (awake16 _ HTA.out).mono ?_); rintro e w7 ⟨rfl, hb7⟩)
    go_ret
    exact ⟨rfl, HAL.out.trans (hb7.mono HAL.out.size)⟩
end Go.Proofs.YtnjdljjmengjbaaDoor
