/- LookupLast. -/
import Derived.Test.YtnjdljjmengjbaaDoorPkj
import Derived.StillTailTactics
import Derived.IntWalk
namespace Go.Proofs.YtnjdljjmengjbaaDoor
set_option linter.unusedVariables false
set_option linter.unusedSimpArgs false
open Go.ChangeShapes Go.WideShapes Go.ChangeAt Go.RowKit Go.Shelf

open LkS in
set_option maxRecDepth 100000 in
set_option maxHeartbeats 2000000 in
theorem walk_lookupLast {W : World} (q : Option Addr) (n c0 : Nat) (hx : n ≤ c0 ∧ c0 ≤ maxLen ∧ ∃ D, PutsAt W q n D) (c : TabS.Cp) (w1 : TabS.InS c.e) (a2 : Int) (w2 : (Lit.int .u64 a2).wf = true) (d : Int) (w3 : (Lit.int .i64 d).wf = true) (hL : LaidV_laid_math_bits_deBruijn64tab W) :
    Calls Tryd.prog 4 #[.slice q n c0, c.V, .int .u64 a2, .int .i64 d] W fun e w' => e = .returned (.bool true) ∧ Below W.heap.size W w' := by
  obtain ⟨h1, h2, D, hD⟩ := hx
  unfold maxLen at h2
  obtain ⟨a, rfl, ha⟩ := u64_in w2
  have HT : Hid (CX.TabG W) := Lib.hid hL
  have hal : Below W.heap.size W (W.alloc (.cells #[.int .i64 c.a, .int .i64 c.b, .int .i64 c.c, .int .u64 c.d, .int .i64 c.e, .int .i64 c.f, .int .i64 c.g, .int .i64 c.h] 25)) := bal (Below.refl _ _) _
  have HTA := Lib.hid (HT.out.call hal)
  have HAL := Lib.hid hal
  by_cases hn : n ≤ 40
  · have HROOM := Lib.hid (room_any _ q n c0 D hn (hD.below hal) HTA.out)
    have hnI : ¬ (n : Int) > 40 := by omega
    have hc0 : (W.alloc (.cells c.L.toArray 25)).heap[W.heap.size]? = some (.cells c.L.toArray 25 (0, 0)) := heap_alloc_new W _
    have HC0 := Lib.hid hc0
    have HAA := Lib.hid ha
    have HE := Lib.hid w1.2
    have HCP := Lib.hid (caps_play D n)
    have HP12 := Lib.hid (pathR_len (L := playP D n) (c := c) (a := a) (d := d) rad5)
    have HRP := Lib.hid (resR_path (playP D n) (stO 5).2 c a d)
    clear hD hal hc0 ha w1 w2 w3 hL h1 h2
    go_enter Tryd.func4, Tryd.ntmps4
    go_upto_region 6 with (go_at_call 9; (with_reducible refine HROOM.out.mono ?_); rintro e w1 ⟨sb, srb, b, rb, rfl, h1⟩; have H1 := Lib.hid h1; clear h1)
    have HBW1 := Lib.hid (HAL.out.trans (H1.out.below.mono HAL.out.size))
    have HC1 := Lib.hid ((H1.out.below.block W.heap.size (by simp)).trans HC0.out)
    obtain ⟨xB, hxB⟩ : ∃ x, x = W.heap.size := ⟨_, rfl⟩
    rw [← hxB] at HC1 ⊢
    obtain ⟨WA, hWA⟩ : ∃ x, x = W.alloc (.cells #[.int .i64 c.a, .int .i64 c.b, .int .i64 c.c, .int .u64 c.d, .int .i64 c.e, .int .i64 c.f, .int .i64 c.g, .int .i64 c.h] 25) := ⟨_, rfl⟩
    rw [← hWA] at H1 HTA
    have RR := Lib.hid (H1.out.resolve HTA.out HCP.out c a d HE.out HAA.out)
    have PP : Hid (∀ v, Below w1.heap.size w1 v → Calls Tryd.prog 12 #[.pointer (some ⟨sb, 0, none⟩), .pointer (some ⟨b, 0, none⟩), c.V, .int .u64 a, .int .i64 d] v fun e w' => ∃ u, e = .returned u ∧ w'.ownsRow v.heap.size 34 2 u (pathR (playP D n) (stO 5).2 c a d).length (slC (pathR (playP D n) (stO 5).2 c a d)) ∧ Below v.heap.size v w') := Lib.hid (fun v (hv : Below w1.heap.size w1 v) => (H1.out.call hv).path HTA.out HCP.out c a d HE.out HAA.out)
    obtain ⟨R1, hR1⟩ : ∃ x, x = (resR (playP D n) (stO 5).2 c a d).1 := ⟨_, rfl⟩
    obtain ⟨R2, hR2⟩ : ∃ x, x = (resR (playP D n) (stO 5).2 c a d).2.1 := ⟨_, rfl⟩
    obtain ⟨R3, hR3⟩ : ∃ x, x = (resR (playP D n) (stO 5).2 c a d).2.2 := ⟨_, rfl⟩
    obtain ⟨P, hP⟩ : ∃ x, x = pathR (playP D n) (stO 5).2 c a d := ⟨_, rfl⟩
    rw [← hR1, ← hR2, ← hR3] at RR HRP
    rw [← hP] at HRP HP12 PP
    clear hxB HC0 HAL hWA HROOM hR1 hR2 hR3 hP HCP HE HAA
    obtain ⟨x0, x1, x2, x3, x4, x5, x6, x7⟩ := cap_cells HC1.out
    go_upto_region 7 with (go_at_call 10; (with_reducible refine RR.out.mono ?_); rintro e w2 ⟨rfl, hb2⟩; have HB2 := Lib.hid hb2; clear hb2)
    obtain ⟨w3, hw3⟩ : ∃ y, y = w2.alloc (.cells #[.int .i64 R1, .int .i64 R2] 34) := ⟨_, rfl⟩
    have hb3 : Below w1.heap.size w1 w3 := hw3 ▸ bal HB2.out _
    have hs3 : w3.heap[w2.heap.size]? = some (.cells #[.int .i64 R1, .int .i64 R2] 34 (0, 0)) := by rw [hw3]; exact heap_alloc_new w2 _
    rw [← hw3]
    have HBW3 := Lib.hid (HBW1.out.trans (hb3.mono HBW1.out.size))
    have HC3 := Lib.hid ((hb3.block xB (Array.getElem?_eq_some_iff.1 HC1.out).1).trans HC1.out)
    have HS3 := Lib.hid hs3
    have P3 := Lib.hid (PP.out w3 hb3)
    clear x0 x1 x2 x3 x4 x5 x6 x7
    obtain ⟨x0, x1, x2, x3, x4, x5, x6, x7⟩ := cap_cells HC3.out
    generalize w2.heap.size = yB at *
    clear hw3 hb3 hs3 HC1 HB2 RR PP HBW1
    go_upto_region 8 with (go_at_call 12; (with_reducible refine P3.out.mono ?_); rintro e w4 ⟨v, rfl, hrow, hb4⟩; obtain ⟨ra, rc, rfl, hrc, hra⟩ := LkS.row_form hrow rfl; have HRA := Lib.hid hra; have HB4 := Lib.hid hb4; clear hrow hra hb4)
    have HBW4 := Lib.hid (HBW3.out.trans (HB4.out.mono HBW3.out.size))
    have hs4 := (HB4.out.block yB (Array.getElem?_eq_some_iff.1 HS3.out).1).trans HS3.out
    obtain ⟨k0, k1, -, -⟩ := slot_cells hs4
    have HTL := Lib.hid (HT.out.call HBW4.out)
    clear x0 x1 x2 x3 x4 x5 x6 x7 hs4 HC3 HS3 P3 HBW3 HTA H1 HB4 hrc
    have hle : ¬ (P.length : Int) > 12 := by have := HP12.out; omega
    rcases HRP.out with ⟨rfl, p, hp, rfl, rfl⟩ | ⟨h0, rfl, rfl⟩
    · obtain ⟨m, hm⟩ : ∃ m, P.length = m + 1 := by
        cases P with
        | nil => cases hp
        | cons x P => exact ⟨P.length, rfl⟩
      have hpm : P[m]? = some p := by rw [List.getLast?_eq_getElem?, hm] at hp; exact hp
      obtain ⟨g, rfl, hg1, hg2, z0, z1⟩ := HRA.out m p hpm
      have hmI : ((m : Int) + 1) ≤ 12 := by omega
      have hsb : (IntKind.i64.wrap (((m : Int) + 1) - 1)) = m := by rw [IntWalk.i64_in _ (by omega)]; omega
      have hsb2 : IntKind.i64.wrap (m : Int) = m := IntWalk.i64_in _ (by omega)
      have hsb3 : (m : Int).toNat = m := by simp
      have hsb4 : (0 : Int) ≤ m := by omega
      have hsb5 : m < m + 1 := by omega
      have hsb6 : (m : Int) < (m : Int) + 1 := by omega
      have hsb7 : decide ((m : Int) < (m : Int) + 1) = true := decide_eq_true hsb6
      have HTD := Lib.hid (HT.out.call HBW4.out.drew)
      clear hp hpm HRP HP12 HRA hle
      rw [hm]
      go_upto_region 11 with fail
      go_still_tail 14, (by kernel_rfl)
      repeat still_step
      trace_state
      change wpList _ _ _ _ _ w4.drew
      go_wp2_with (go_at_call 8; (with_reducible refine (awake16 _ HTD.out).mono ?_); rintro e w7 ⟨rfl, hb7⟩)
      go_ret
      exact ⟨rfl, HBW4.out.drew.trans (hb7.mono HBW4.out.size)⟩
    · clear HRP HRA HP12
      go_wp2_with (go_at_call 8; (with_reducible refine (awake16 _ HTL.out).mono ?_); rintro e w7 ⟨rfl, hb7⟩)
      go_ret
      exact ⟨rfl, HBW4.out.trans (hb7.mono HBW4.out.size)⟩
  · have hnI : (n : Int) > 40 := by omega
    clear hD w1 w2 w3 hL h1 h2 ha hal
    go_enter Tryd.func4, Tryd.ntmps4
    go_wp2_with (go_at_call 8; (with_reducible refine (awake16 _ HTA.out).mono ?_); rintro e w7 ⟨rfl, hb7⟩)
    go_ret
    exact ⟨rfl, HAL.out.trans (hb7.mono HAL.out.size)⟩
end Go.Proofs.YtnjdljjmengjbaaDoor
