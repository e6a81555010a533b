/- chapter 35: any text is read as the own answer reads it. -/
import Derived.Test.YthgmanncmekeeaaDoorSi0
import Derived.Test.YthgmanncmekeeaaDoorSd4
import Derived.Test.YthgmanncmekeeaaDoorSdE
namespace Go.Proofs.YthgmanncmekeeaaDoor
set_option linter.unusedVariables false
set_option linter.unusedSimpArgs false
open Go.ChangeShapes Go.WideShapes Go.ChangeAt Go.RowKit Go.Shelf
attribute [-go_sem] binOp_string_add binOp_string_eql binOp_string_neq run_index_string
attribute [local go_sem] Sc.bs_size
namespace Sc
theorem numR_any (x : Int) (w : World) : Calls Tryd.prog 11 #[.int .i64 x] w fun e w' => e = .returned (.int .i64 x) ∧ w = w' := by
  go_enter Tryd.func11, Tryd.ntmps11
  go_wp2
  go_ret
  exact ⟨rfl, rfl⟩
theorem refparse_form (s : Bs) (w : World) : Calls Tryd.prog 15 #[.string (bs s)] w fun e w' => ∃ p c, e = .returned (.tuple #[.slice p (parseE s).1.length c, .int .i64 (parseE s).2.1, .int .i64 (parseE s).2.2]) ∧ w'.ownsRow w.heap.size 36 15 (.slice p (parseE s).1.length c) (parseE s).1.length (evsC (parseE s).1) ∧ Below w.heap.size w w' := by
  have hP : Calls Tryd.prog 15 #[.string (bs s)] w (PaRes s w) := by
    by_cases h : 65536 < s.length
    · exact refparse_long s h w
    · exact refparse_in s (by omega) w
  refine hP.mono ?_
  rintro e w' ⟨v, rfl, h1, h2⟩
  obtain ⟨p, c, rfl, hc⟩ := row_form h1
  exact ⟨p, c, rfl, h1, h2⟩
set_option maxRecDepth 100000 in
set_option maxHeartbeats 2000000 in
theorem reads_any (s : Bs) (w : World) (hE : EnvAt w) : Calls Tryd.prog 4 #[.string (bs s)] w fun e w' => e = .returned (.bool true) ∧ Below w.heap.size w w' := by
  have HAW := Lib.hid (fun v (h' : Below w.heap.size w v) => awake_any v (hE.call h'))
  by_cases hl : 66000 < s.length
  · have q : ((66000 : Int) < (s.length : Int)) = True := by rw [eq_iff_iff, iff_true]; omega
    clear hl hE
    go_enter Tryd.func4, Tryd.ntmps4
    go_wp2_with (go_at_call 8; (with_reducible refine (HAW.out _ (Below.refl _ _)).mono ?_); rintro e w1 ⟨rfl, hb1⟩)
    go_ret
    exact ⟨rfl, hb1⟩
  · have q : ((66000 : Int) < (s.length : Int)) = False := by rw [eq_iff_iff, iff_false]; omega
    have HP := Lib.hid (fun v (h' : Below w.heap.size w v) => parse_form s v (hE.call h'))
    have HR := Lib.hid (fun v => refparse_form s v)
    have hll := parse_len s
    obtain ⟨L, a, b, hpe⟩ : ∃ L a b, parseE s = (L, a, b) := ⟨_, _, _, rfl⟩
    rw [hpe] at HP HR hll
    simp only at HP HR hll
    obtain ⟨n, hn⟩ : ∃ n, n = L.length := ⟨_, rfl⟩
    rw [← hn] at HP HR hll
    have hnn : n ≤ 66000 := by omega
    have HSE : Hid (∀ v (x y : Option Addr) c d, EvM v x L → EvM v y L → Calls Tryd.prog 16 #[.slice x n c, .slice y n d] v fun e w' => e = .returned (.bool true) ∧ Below v.heap.size v w') := Lib.hid (fun v x y c d h1 h2 => by
      have := same_evs v x y c d L h1 h2 (by omega)
      rw [← hn] at this
      exact this)
    have HOV : Hid (∀ v p c, v.ownsRow w.heap.size 36 15 (.slice p n c) n (evsC L) → Calls Tryd.prog 17 #[.slice p n c] v fun e w' => (∃ u, e = .returned u) ∧ v.grownBy w' (Value.slice p n c).ownBlock) := Lib.hid (fun v p c h => over_evs v (.slice p n c) n (evsC L) w.heap.size h (by omega))
    have HNUM := Lib.hid numR_any
    have HMO : Hid (∀ v B p c, v.ownsRow B 36 15 (.slice p n c) n (evsC L) → EvM v p L) := Lib.hid (fun v B p c h => EvM.own (L := L) (by rw [← hn]; exact h))
    have HKEEP : Hid (∀ v v' B p c, v.ownsRow B 36 15 (.slice p n c) n (evsC L) → Below v.heap.size v v' → v'.ownsRow B 36 15 (.slice p n c) n (evsC L)) := Lib.hid (fun v v' B p c h hb => own_block h (fun g hg => hb.block g (h.lt g hg).2))
    have HGR : Hid (∀ (v1 v v' : World) p1 c1 p2 c2, v1.ownsRow w.heap.size 36 15 (.slice p1 n c1) n (evsC L) → v.ownsRow v1.heap.size 36 15 (.slice p2 n c2) n (evsC L) → Below w.heap.size w v → v1.heap.size ≤ v.heap.size → v.grownBy v' (Value.slice p1 n c1).ownBlock → v'.ownsRow v1.heap.size 36 15 (.slice p2 n c2) n (evsC L) ∧ Below w.heap.size w v') := Lib.hid (fun v1 v v' p1 c1 p2 c2 h1 h2 hb hs hg => by
      refine ⟨own_block h2 (fun g hq => hg.block g (h2.lt g hq).2 (fun e => ?_)), hb.grown hg (Nat.le_trans (Nat.le_refl _) hb.size) (fun j ej => (h1.lt j ej).1)⟩
      have a1 := (h1.lt g e.symm).2
      have a2 := (h2.lt g hq).1
      omega)
    clear hE hpe hl hn hll
    go_enter Tryd.func4, Tryd.ntmps4
    go_wp2_with (first
      | (go_at_call 14; (with_reducible refine (HP.out _ HB4.out).mono ?_); rintro e w5 ⟨p5, c5, rfl, _, hr5, hb5⟩; have HM5 := Lib.hid (HMO.out _ _ _ _ hr5); have HM6 := Lib.hid (HMO.out _ _ _ _ (HKEEP.out _ _ _ _ _ HR4.out hb5)); have HB5 := Lib.hid (HB4.out.trans (hb5.mono HB4.out.size)); clear hr5 hb5)
      | (go_at_call 14; (with_reducible refine (HP.out _ (Below.refl _ _)).mono ?_); rintro e w1 ⟨p1, c1, rfl, _, hr1, hb1⟩; have HR1 := Lib.hid hr1; have HB1 := Lib.hid hb1; clear hr1 hb1)
      | (go_at_call 15; (with_reducible refine (HR.out _).mono ?_); rintro e w2 ⟨p2, c2, rfl, hr2, hb2⟩; have HR2 := Lib.hid hr2; have HR12 := Lib.hid (HKEEP.out _ _ _ _ _ HR1.out hb2); have HM1 := Lib.hid (HMO.out _ _ _ _ HR12.out); have HM2 := Lib.hid (HMO.out _ _ _ _ hr2); have HB2 := Lib.hid (HB1.out.trans (hb2.mono HB1.out.size)); have HS2 := Lib.hid hb2.size; clear hr2 hb2)
      | (go_at_call 16; (with_reducible refine (HSE.out _ _ _ _ _ HM5.out HM6.out).mono ?_); rintro e w6 ⟨rfl, hb6⟩; have HB6 := Lib.hid (HB5.out.trans (hb6.mono HB5.out.size)); clear hb6)
      | (go_at_call 16; (with_reducible refine (HSE.out _ _ _ _ _ HM1.out HM2.out).mono ?_); rintro e w3 ⟨rfl, hb3⟩; have HR13 := Lib.hid (HKEEP.out _ _ _ _ _ HR12.out hb3); have HR23 := Lib.hid (HKEEP.out _ _ _ _ _ HR2.out hb3); have HB3 := Lib.hid (HB2.out.trans (hb3.mono HB2.out.size)); have HS3 := Lib.hid (Nat.le_trans HS2.out hb3.size); clear hb3)
      | (go_at_call 11; (with_reducible refine (HNUM.out _ _).mono ?_); rintro e w9 ⟨rfl, rfl⟩)
      | (go_at_call 17; (with_reducible refine (HOV.out _ _ _ HR13.out).mono ?_); rintro e w4 ⟨⟨u, rfl⟩, hg4⟩; have HQ := Lib.hid (HGR.out _ _ _ _ _ _ _ HR1.out HR23.out HB3.out HS3.out hg4); have HR4 := Lib.hid HQ.out.1; have HB4 := Lib.hid HQ.out.2; clear hg4)
      | (go_at_call 8; (with_reducible refine (HAW.out _ HB6.out).mono ?_); rintro e w7 ⟨rfl, hb7⟩))
    go_ret
    exact ⟨rfl, HB6.out.trans (hb7.mono HB6.out.size)⟩
theorem walk_scriptReads {W : World} (a : ByteArray) {Q : Prop} (w0 : Q) (hE : EnvAt W) : Calls Tryd.prog 4 #[.string a] W fun e w' => e = .returned (.bool true) ∧ Below W.heap.size W w' := by
  have := reads_any a.data.toList W hE
  rw [bs_data] at this
  exact this
end Sc
end Go.Proofs.YthgmanncmekeeaaDoor
