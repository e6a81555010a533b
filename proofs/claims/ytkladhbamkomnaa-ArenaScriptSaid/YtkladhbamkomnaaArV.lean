/- chapter 12: the walk of ArenaGone. -/
import Derived.Test.YtkladhbamkomnaaArU
import Derived.Test.YtkladhbamkomnaaLowL
namespace Go.Proofs.Ytkladhbamkomnaa
set_option linter.unusedVariables false
set_option linter.unusedSimpArgs false
open Go.ChangeShapes Go.WideShapes Go.ChangeAt Go.RowKit Go.Shelf
open TabA

set_option maxHeartbeats 1000000 in
theorem eqSame (i k s f r m e p l : Int) (w : World) : (binOp .eql 37 (.agg #[.int .i64 i, .int .i64 k, .int .i64 s, .int .i64 f, .int .i64 r, .int .i64 m, .int .i64 e, .int .i64 p, .int .i64 l]) (.agg #[.int .i64 i, .int .i64 k, .int .i64 s, .int .i64 f, .int .i64 r, .int .i64 m, .int .i64 e, .int .i64 p, .int .i64 l])).run Try.prog w = .ok (.bool true) w := by
  go_simp
theorem neq_of_eql (t : TypeId) (xs ys : Array Value) (w : World) (b : Bool) (hg : Try.prog.eqGuardType 10000 t = false) (h : (binOp .eql t (.agg xs) (.agg ys)).run Try.prog w = .ok (.bool b) w) : (binOp .neq t (.agg xs) (.agg ys)).run Try.prog w = .ok (.bool (!b)) w := by
  rw [run_eql_struct] at h
  rw [run_neq_struct]
  cases hr : (Op.equalIn 10000 t (.agg xs) (.agg ys)).run Try.prog w with
  | ok r w1 =>
    rw [hr] at h
    simp only [Result.andThen_ok] at h ⊢
    cases h
    rfl
  | halt c w1 =>
    rw [hr] at h
    cases h
theorem neSame (i k s f r m e p l : Int) (w : World) : (binOp .neq 37 (.agg #[.int .i64 i, .int .i64 k, .int .i64 s, .int .i64 f, .int .i64 r, .int .i64 m, .int .i64 e, .int .i64 p, .int .i64 l]) (.agg #[.int .i64 i, .int .i64 k, .int .i64 s, .int .i64 f, .int .i64 r, .int .i64 m, .int .i64 e, .int .i64 p, .int .i64 l])).run Try.prog w = .ok (.bool false) w :=
  neq_of_eql _ _ _ w true (by kernel_rfl) (eqSame i k s f r m e p l w)
attribute [local go_sem] neSame
/-- The arena, the list that All gave, and the object at hand. -/
structure GoneW (W w : World) (b g xB : Nat) (s : List Int × List Ob) (L : List Ob) (x : Ob) : Prop where
  st : ∃ ab base v, ArAt w b ab base 16 s.1 v s.2 ∧ W.heap.size ≤ b ∧ W.heap.size ≤ ab ∧ (g ≠ b ∧ g ≠ ab ∧ v.ownBlock ≠ some g) ∧ (xB ≠ b ∧ xB ≠ ab ∧ v.ownBlock ≠ some xB)
  bl : Below W.heap.size W w
  gl : g < w.heap.size
  xl : xB < w.heap.size
  ob : ObsAt w g L
  xc : ∀ j u, x.cells[j]? = some u → w.cell? ⟨xB, j, none⟩ = some u
theorem GoneW.call {W w w' : World} {b g xB : Nat} {s : List Int × List Ob} {L : List Ob} {x : Ob} (h : GoneW W w b g xB s L x) (hb : Below w.heap.size w w') : GoneW W w' b g xB s L x := by
  obtain ⟨ab, base, v, hA, h1, h2, h3, h4⟩ := h.st
  exact ⟨⟨ab, base, v, hA.call hb, h1, h2, h3, h4⟩, h.bl.trans (hb.mono h.bl.size), Nat.lt_of_lt_of_le h.gl hb.size, Nat.lt_of_lt_of_le h.xl hb.size, h.ob.call h.gl hb, fun j u hj => (hb.cell (p := ⟨xB, j, none⟩) h.xl).trans (h.xc j u hj)⟩
theorem GoneW.act {W w w' : World} {b g xB ab base : Nat} {v v' : Value} {s s' : List Int × List Ob} {L : List Ob} {x : Ob} (h : GoneW W w b g xB s L x) (hA : ArAt w b ab base 16 s.1 v s.2) (h1 : W.heap.size ≤ b) (h2 : W.heap.size ≤ ab)
    (h3 : g ≠ b ∧ g ≠ ab ∧ v.ownBlock ≠ some g) (h4 : xB ≠ b ∧ xB ≠ ab ∧ v.ownBlock ≠ some xB) (hA' : ArAt w' b ab base 16 s'.1 v' s'.2) (hO : OnlyA w w' b ab v v') : GoneW W w' b g xB s' L x := by
  have eg := hO.block g h.gl h3.1 h3.2.1 h3.2.2
  have ex := hO.block xB h.xl h4.1 h4.2.1 h4.2.2
  have gl := h.gl
  have xl := h.xl
  have ow : ∀ k, k < w.heap.size → v.ownBlock ≠ some k → v'.ownBlock ≠ some k := by
    intro k hk hv
    rcases hO.foot with q | ⟨r, q, hr⟩
    · rw [q]; exact hv
    · rw [q]; intro e; cases e; omega
  exact ⟨⟨ab, base, v', hA', h1, h2, ⟨h3.1, h3.2.1, ow g gl h3.2.2⟩, ⟨h4.1, h4.2.1, ow xB xl h4.2.2⟩⟩, h.bl.trans (hO.below hA h1 h2), Nat.lt_of_lt_of_le gl hO.size, Nat.lt_of_lt_of_le xl hO.size,
    fun i j y u hi hj => (World.cell?_of_block (a := ⟨g, _, none⟩) eg).trans (h.ob i j y u hi hj), fun j u hj => (World.cell?_of_block (a := ⟨xB, j, none⟩) ex).trans (h.xc j u hj)⟩
theorem GoneW.drop {W w : World} {b g xB : Nat} {s : List Int × List Ob} {L : List Ob} {x : Ob} (h : GoneW W w b g xB s L x) (id : Int) :
    Calls Try.prog 23 #[.pointer (some ⟨b, 0, none⟩), .int .i64 id] w fun e w' => e = .returned (.int .i64 (dropR s.2 id)) ∧ GoneW W w' b g xB (s.1, dropL s.2 id) L x := by
  obtain ⟨ab, base, v, hA, h1, h2, h3, h4⟩ := h.st
  exact (adrop_any w b ab base 16 s.1 v s.2 id hA).mono fun e w' ⟨he, v', hA', hO⟩ => ⟨he, h.act hA h1 h2 h3 h4 hA' hO⟩
theorem GoneW.add {W w : World} {b g xB : Nat} {s : List Int × List Ob} {L : List Ob} {x : Ob} (h : GoneW W w b g xB s L x) (hl : s.2.length < 1000000) (x1 x2 x3 : Int) (wf : -9223372036854775808 ≤ x3 ∧ x3 ≤ 9223372036854775807) :
    Calls Try.prog 24 #[.pointer (some ⟨b, 0, none⟩), .int .i64 x1, .int .i64 x2, .int .i64 x3] w fun e w' => e = .returned (.tuple #[.int .i64 (addR 16 s.1 s.2 x1 x2 x3).1, .int .i64 (addR 16 s.1 s.2 x1 x2 x3).2]) ∧ GoneW W w' b g xB (addC 16 s.1 s.2 x1 x2 x3, addL 16 s.1 s.2 x1 x2 x3) L x := by
  obtain ⟨ab, base, v, hA, h1, h2, h3, h4⟩ := h.st
  exact (add_any w b ab base 16 s.1 v s.2 x1 x2 x3 hA wf hl).mono fun e w' ⟨he, v', hA', hO⟩ => ⟨he, h.act hA h1 h2 h3 h4 hA' hO⟩
theorem GoneW.add_yes {W w : World} {b g xB : Nat} {cnt : List Int} {M L : List Ob} {x : Ob} (h : GoneW W w b g xB (cnt, M) L x) (hl : M.length < 1000000) (x1 x2 x3 id : Int) (wf : -9223372036854775808 ≤ x3 ∧ x3 ≤ 9223372036854775807) (hr : addR 16 cnt M x1 x2 x3 = (id, 0)) :
    Calls Try.prog 24 #[.pointer (some ⟨b, 0, none⟩), .int .i64 x1, .int .i64 x2, .int .i64 x3] w fun e w' => e = .returned (.tuple #[.int .i64 id, .int .i64 0]) ∧ GoneW W w' b g xB (addC 16 cnt M x1 x2 x3, addL 16 cnt M x1 x2 x3) L x := by
  have := h.add hl x1 x2 x3 wf
  simp only [] at this
  rw [hr] at this
  exact this
theorem GoneW.sta {W w : World} {b g xB : Nat} {s : List Int × List Ob} {L : List Ob} {x : Ob} (h : GoneW W w b g xB s L x) : StA W w b s := by
  obtain ⟨ab, base, v, hA, h1, h2, _⟩ := h.st
  exact ⟨ab, base, v, hA, h1, h2, h.bl⟩
theorem GoneW.get_at {W w : World} {b g xB : Nat} {cnt : List Int} {M L : List Ob} {x y : Ob} (h : GoneW W w b g xB (cnt, M) L x) (hy : y ∈ M) :
    Calls Try.prog 15 #[.pointer (some ⟨b, 0, none⟩), .int .i64 y.id] w fun e w' => e = .returned (.tuple #[obV y, .bool true]) ∧ Below w.heap.size w w' := by
  have := h.sta.get y.id
  rw [h.sta.find hy] at this
  exact this
theorem GoneW.get_some {W w : World} {b g xB : Nat} {s : List Int × List Ob} {L : List Ob} {x : Ob} (h : GoneW W w b g xB s L x) (id : Int) :
    Calls Try.prog 15 #[.pointer (some ⟨b, 0, none⟩), .int .i64 id] w fun e w' => ∃ (a1 a2 a3 a4 a5 a6 a7 a8 a9 : Int) (hs : Bool), e = .returned (.tuple #[.agg #[.int .i64 a1, .int .i64 a2, .int .i64 a3, .int .i64 a4, .int .i64 a5, .int .i64 a6, .int .i64 a7, .int .i64 a8, .int .i64 a9], .bool hs]) ∧ Below w.heap.size w w' :=
  (h.sta.get id).mono fun e w' ⟨he, hb⟩ => ⟨_, _, _, _, _, _, _, _, _, _, he, hb⟩
theorem gone_start {W w1 w2 : World} {b g : Nat} {s : List Int × List Ob} {x : Ob} (h : StA W w1 b s) (hb : Below w1.heap.size w1 w2) (hg : w1.heap.size ≤ g) (hg2 : g < w2.heap.size) (ho : ObsAt w2 g s.2) :
    GoneW W (w2.alloc (.cells (obA x) 37)) b g w2.heap.size s s.2 x := by
  obtain ⟨ab, base, v, hA, h1, h2, h3⟩ := h
  have b1 := hA.bl
  have b2 := hA.al
  have b3 := hb.size
  have own : ∀ k, w1.heap.size ≤ k → v.ownBlock ≠ some k := fun k hk e => by have := (hA.tab.own e).2; omega
  have hal : Below w2.heap.size w2 (w2.alloc (.cells (obA x) 37)) := bal (Below.refl _ _) _
  exact ⟨⟨ab, base, v, (hA.call hb).call hal, h1, h2, ⟨by omega, by omega, own g hg⟩, ⟨by omega, by omega, own _ b3⟩⟩, (h3.trans (hb.mono h3.size)).trans (hal.mono (Nat.le_trans h3.size b3)), Nat.lt_of_lt_of_le hg2 hal.size, by simp, ho.call hg2 hal,
    fun j u hj => (cell_cur (cur := x.cells) (t := 37) (show (w2.alloc (.cells (obA x) 37)).heap[w2.heap.size]? = some (.cells x.cells.toArray 37 (0, 0)) from heap_alloc_new w2 _) j).trans hj⟩
set_option maxRecDepth 100000 in
set_option maxHeartbeats 4000000 in
theorem gone_any (q : Option Addr) (n c : Nat) (D : Nat → ActT) (wh : Int) (W : World) (hn : n ≤ 100) (hD : ActsAt W q n D) (hwh : -9223372036854775808 ≤ wh ∧ wh ≤ 9223372036854775807) :
    Calls Try.prog 6 #[.slice q n c, .int .i64 wh] W fun e w' => e = .returned (.bool true) ∧ Below W.heap.size W w' := by
  have hn' : ¬ (n : Int) > 100 := by omega
  have HD := Lib.hid hD
  have HLL := Lib.hid (show (playS D n).2.length < 1000000 by have := play_len D n; omega)
  have HWH := Lib.hid hwh
  clear hD hwh
  by_cases h0 : (playS D n).2.length = 0
  · go_enter Try.func6, Try.ntmps6
    go_wp2_with (first
      | (go_at_call 20; (with_reducible refine (played_any q n c D W hn HD.out).mono ?_); rintro e w1 ⟨b, rfl, hS⟩; have HS := Lib.hid hS; clear hS)
      | (go_at_call 8; refine (awake12 _).mono ?_; rintro e w3 ⟨rfl, hb3⟩)
      | (go_at_call 17; (with_reducible refine (HS.out.all HLL.out).mono ?_); rintro e w2 ⟨r, rfl, hR, hB2⟩; have HR := Lib.hid hR; have HB2 := Lib.hid hB2; clear hR hB2; obtain ⟨ra, rc, rfl, hrc, hra⟩ := obs_of HR.out; clear hra; rw [h0] at hrc ⊢))
    go_ret
    exact ⟨rfl, (HS.out.below.trans (HB2.out.mono HS.out.below.size)).trans (hb3.mono (Nat.le_trans HS.out.below.size HB2.out.size))⟩
  · go_enter Try.func6, Try.ntmps6
    have h0I : ¬ (((playS D n).2.length : Nat) : Int) = 0 := by omega
    go_upto_region 10 with (first
      | (go_at_call 20; (with_reducible refine (played_any q n c D W hn HD.out).mono ?_); rintro e w1 ⟨b, rfl, hS⟩; have HS := Lib.hid hS; clear hS)
      | (go_at_call 17; (with_reducible refine (HS.out.all HLL.out).mono ?_); rintro e w2 ⟨r, rfl, hR, hB2⟩; have HR := Lib.hid hR; have HB2 := Lib.hid hB2; clear hR hB2; obtain ⟨ra, rc, rfl, hrc, hra⟩ := obs_of HR.out; have HRA := Lib.hid hra; clear hra))
    have hl1 : (playS D n).2.length ≤ 100 := by have := play_len D n; omega
    obtain ⟨k, hk, hkL⟩ : ∃ k : Nat, lowI wh ((playS D n).2.length : Nat) = k ∧ k < (playS D n).2.length := by
      have a1 := lowI_0 wh ((playS D n).2.length : Nat) (by omega)
      have a2 := lowI_1 wh ((playS D n).2.length : Nat) (by omega)
      exact ⟨(lowI wh ((playS D n).2.length : Nat)).toNat, by omega, by omega⟩
    obtain ⟨g, rfl, hgl, hobs⟩ := HRA.out k hkL
    have hgs : w1.heap.size ≤ g := (HR.out.lt g rfl).1
    obtain ⟨x, hx⟩ : ∃ x, (playS D n).2[k]? = some x := ⟨(playS D n).2[k]'hkL, List.getElem?_eq_getElem _⟩
    have hgone := gone_at HS.out hn hx
    have hst := gone_start (x := x) HS.out HB2.out hgs hgl hobs
    have hgood : 0 ≤ x.fi ∧ x.fi ≤ 16 := by
      obtain ⟨ab, base, v, hA, _⟩ := HS.out
      obtain ⟨q1, q2, q3, _⟩ := hA.good x (List.mem_of_getElem? hx)
      omega
    have hxo := fun j u hj => hobs k j x u hx hj
    clear HRA HR
    generalize hs : playS D n = s at *
    obtain ⟨cnt, L⟩ := s
    simp only [] at *
    obtain ⟨xi, xk, xs, xf, xr, xm, xe, xp, xl⟩ := x
    obtain ⟨r0, r1, l1, g1, ⟨nid, ad, hlt⟩, ln, ke⟩ := hgone
    simp only [] at r0 r1 l1 g1 ad hlt ln ke hgood
    have x0 := hxo 0 _ rfl
    have x1 := hxo 1 _ rfl
    have x2 := hxo 2 _ rfl
    have x3 := hxo 3 _ rfl
    have x4 := hxo 4 _ rfl
    have x5 := hxo 5 _ rfl
    have x6 := hxo 6 _ rfl
    have x7 := hxo 7 _ rfl
    have x8 := hxo 8 _ rfl
    simp only [Nat.add_zero] at x0
    have HST := Lib.hid hst
    have HOB := Lib.hid hobs
    have R0 := Lib.hid r0
    have R1 := Lib.hid r1
    have L1 := Lib.hid l1
    have G1 := Lib.hid g1
    have AD := Lib.hid ad
    have LN := Lib.hid ln
    have KE := Lib.hid ke
    have HX := Lib.hid hx
    have HK := Lib.hid hk
    have HGD := Lib.hid hgood
    have hkI : (k : Int) < (L.length : Nat) := by omega
    clear hst hobs r0 r1 l1 g1 ad ln ke hx hk hxo hgood hs hgs
    have HS1 := Lib.hid hl1
    clear hl1
    go_upto_region 10 with (go_at_call 25; refine (low_any wh _ _ HWH.out (by omega) (by have := HS1.out; omega)).mono ?_; rw [HK.out]; rintro e w3 ⟨rfl, rfl⟩)
    obtain ⟨w3, hw3⟩ : ∃ y, y = w2.alloc (.cells (obA ⟨xi, xk, xs, xf, xr, xm, xe, xp, xl⟩) 37) := ⟨_, rfl⟩
    rw [← hw3]
    have HG : Hid (GoneW W w3 b g w2.heap.size (cnt, L) L ⟨xi, xk, xs, xf, xr, xm, xe, xp, xl⟩) := Lib.hid (by rw [hw3]; exact HST.out)
    clear HST hw3 x0 x1 x2 x3 x4 x5 x6 x7 x8
    generalize w2.heap.size = xB at *
    have z0 : w3.cell? ⟨xB, 0, none⟩ = some (.int .i64 xi) := HG.out.xc 0 _ rfl
    go_upto_region 14 with (first
      | (go_at_call 23; (with_reducible refine (HG4.out.drop xi).mono ?_); rw [R1.out]; rintro e w5 ⟨rfl, hg5⟩; rw [L1.out] at hg5; have HG5 := Lib.hid hg5; have z5 : w5.cell? ⟨xB, 0, none⟩ = some (.int .i64 xi) := hg5.xc 0 _ rfl; clear hg5)
      | (go_at_call 23; (with_reducible refine (HG.out.drop xi).mono ?_); rw [R0.out]; rintro e w4 ⟨rfl, hg4⟩; have HG4 := Lib.hid hg4; have z4 : w4.cell? ⟨xB, 0, none⟩ = some (.int .i64 xi) := hg4.xc 0 _ rfl; clear hg4))
    go_upto_region 14 with (go_at_call 15; (with_reducible refine (HG5.out.sta.get xi).mono ?_); rw [G1.out]; rintro e w6 ⟨rfl, hb6⟩; have HG6 := Lib.hid (HG5.out.call hb6); have y0 : w6.cell? ⟨xB, 0, none⟩ = some (.int .i64 xi) := HG6.out.xc 0 _ rfl; have y1 : w6.cell? ⟨xB, 1, none⟩ = some (.int .i64 xk) := HG6.out.xc 1 _ rfl; have y2 : w6.cell? ⟨xB, 2, none⟩ = some (.int .i64 xs) := HG6.out.xc 2 _ rfl; have y3 : w6.cell? ⟨xB, 3, none⟩ = some (.int .i64 xf) := HG6.out.xc 3 _ rfl; have yl : xB < w6.heap.size := HG6.out.xl)
    have hdl : (dropL L xi).length < 1000000 := by have := dropL_len L xi; have := HS1.out; omega
    have HDL := Lib.hid hdl
    clear hdl
    have hfb : -9223372036854775808 ≤ xf ∧ xf ≤ 9223372036854775807 := by have := HGD.out; omega
    have HFB := Lib.hid hfb
    clear hfb
    go_upto_region 14 with (go_at_call 24; (with_reducible refine ((HG6.out.call (bal (Below.refl _ _) _)).add_yes HDL.out xk xs xf nid HFB.out AD.out).mono ?_); rintro e w7 ⟨rfl, hg7⟩; have HG7 := Lib.hid hg7; clear hg7)
    clear HG HG4 HG5 HG6 z0 z4 z5 y0 y1 y2 y3 yl hb6 HOB R0 R1 L1 G1
    obtain ⟨M, hM⟩ : ∃ M, addL 16 cnt (dropL L xi) xk xs xf = M := ⟨_, rfl⟩
    rw [hM] at HG7
    generalize addC 16 cnt (dropL L xi) xk xs xf = cn at HG7
    have HKE : Hid (∀ y ∈ L, y.id ≠ xi → y ∈ M) := Lib.hid (by rw [← hM]; exact KE.out)
    have HLM : Hid (M.length = L.length) := Lib.hid (by rw [← hM]; exact LN.out)
    clear KE LN hM AD
    generalize w6.heap.size = dB at *
    go_wp2
    go_loopw [12, 13, 14] (fun i y z wr => ∃ t : Nat, t ≤ L.length ∧ i = .int .i64 t ∧ Hid (GoneW W wr b g xB (cn, M) L ⟨xi, xk, xs, xf, xr, xm, xe, xp, xl⟩)) (fun i _ _ _ => L.length - (intOf i).toNat)
    case atStart => exact ⟨0, Nat.zero_le _, rfl, HG7⟩
    case round =>
      obtain ⟨t, ht, rfl, HW⟩ := hrel
      clear HG7
      by_cases htL : t < L.length
      · have htI : (t : Int) < L.length := by omega
        obtain ⟨y, hy⟩ : ∃ y, L[t]? = some y := ⟨L[t]'htL, List.getElem?_eq_getElem _⟩
        have hyo := fun j u hj => HW.out.ob t j y u hy hj
        have hkeep := HKE.out y (List.mem_of_getElem? hy)
        obtain ⟨yi, yk, ys, yf, yr, ym, ye, yp, yl⟩ := y
        simp only [] at hkeep
        have v0 := hyo 0 _ rfl
        simp only [Nat.add_zero] at v0
        have HY := Lib.hid hy
        have HTL := Lib.hid htL
        clear hyo hy
        by_cases hyx : yi = xi
        · subst hyx
          clear hkeep
          go_upto_region 18 with (go_at_call 15; (with_reducible refine (HW.out.get_some yi).mono ?_); rintro e w8 ⟨a1, a2, a3, a4, a5, a6, a7, a8, a9, hs, rfl, hb8⟩; have HG8 := Lib.hid (HW.out.call hb8))
          obtain ⟨w9, hw9⟩ : ∃ z, z = w8.alloc (.cells (obA ⟨a1, a2, a3, a4, a5, a6, a7, a8, a9⟩) 37) := ⟨_, rfl⟩
          rw [← hw9]
          have HG9 : Hid (GoneW W w9 b g xB (cn, M) L ⟨yi, xk, xs, xf, xr, xm, xe, xp, xl⟩) := Lib.hid (by rw [hw9]; exact HG8.out.call (bal (Below.refl _ _) _))
          have c0 : w9.cell? ⟨g, t * 9, none⟩ = some (.int .i64 yi) := by have := HG9.out.ob t 0 _ _ HY.out rfl; simpa using this
          have d0 : w9.cell? ⟨xB, 0, none⟩ = some (.int .i64 yi) := HG9.out.xc 0 _ rfl
          clear hw9 HG8 v0 hb8 HW
          generalize w8.heap.size = yB at *
          go_quiet (fail)
          have hs1 := HS1.out
          have htl := HTL.out
          go_wp2
          go_roundw
          case rel => have q1 := HTL.out; have q2 := HS1.out; exact ⟨t + 1, HTL.out, by go_num, Lib.hid (HG9.out.call (below_drewN (Below.refl _ _) _))⟩
          case measure => have := HTL.out; have q2 := HS1.out; first | (simp [intOf]; done) | (simp [intOf]; omega)
        · have HKY := Lib.hid (hkeep hyx)
          clear hkeep
          go_upto_region 18 with (go_at_call 15; (with_reducible refine (HW.out.get_at (y := ⟨yi, yk, ys, yf, yr, ym, ye, yp, yl⟩) HKY.out).mono ?_); rintro e w8 ⟨rfl, hb8⟩; have HG8 := Lib.hid (HW.out.call hb8))
          obtain ⟨w9, hw9⟩ : ∃ z, z = w8.alloc (.cells (obA ⟨yi, yk, ys, yf, yr, ym, ye, yp, yl⟩) 37) := ⟨_, rfl⟩
          rw [← hw9]
          have HG9 : Hid (GoneW W w9 b g xB (cn, M) L ⟨xi, xk, xs, xf, xr, xm, xe, xp, xl⟩) := Lib.hid (by rw [hw9]; exact HG8.out.call (bal (Below.refl _ _) _))
          have cy := fun j u hj => HG9.out.ob t j _ u HY.out hj
          have c0 := cy 0 _ rfl
          simp only [Nat.add_zero] at c0
          have c1 := cy 1 _ rfl
          have c2 := cy 2 _ rfl
          have c3 := cy 3 _ rfl
          have c4 := cy 4 _ rfl
          have c5 := cy 5 _ rfl
          have c6 := cy 6 _ rfl
          have c7 := cy 7 _ rfl
          have c8 := cy 8 _ rfl
          have d0 : w9.cell? ⟨xB, 0, none⟩ = some (.int .i64 xi) := HG9.out.xc 0 _ rfl
          have e0 : w9.cell? ⟨w8.heap.size, 0, none⟩ = some (.int .i64 yi) := by rw [hw9]; go_simp
          have e1 : w9.cell? ⟨w8.heap.size, 1, none⟩ = some (.int .i64 yk) := by rw [hw9]; go_simp
          have e2 : w9.cell? ⟨w8.heap.size, 2, none⟩ = some (.int .i64 ys) := by rw [hw9]; go_simp
          have e3 : w9.cell? ⟨w8.heap.size, 3, none⟩ = some (.int .i64 yf) := by rw [hw9]; go_simp
          have e4 : w9.cell? ⟨w8.heap.size, 4, none⟩ = some (.int .i64 yr) := by rw [hw9]; go_simp
          have e5 : w9.cell? ⟨w8.heap.size, 5, none⟩ = some (.int .i64 ym) := by rw [hw9]; go_simp
          have e6 : w9.cell? ⟨w8.heap.size, 6, none⟩ = some (.int .i64 ye) := by rw [hw9]; go_simp
          have e7 : w9.cell? ⟨w8.heap.size, 7, none⟩ = some (.int .i64 yp) := by rw [hw9]; go_simp
          have e8 : w9.cell? ⟨w8.heap.size, 8, none⟩ = some (.int .i64 yl) := by rw [hw9]; go_simp
          clear cy hw9 HG8 v0 hb8 HW
          generalize w8.heap.size = yB at *
          have hd : decide (yi = xi) = false := decide_eq_false hyx
          go_quiet (fail)
          have hs1 := HS1.out
          have htl := HTL.out
          go_wp2
          go_roundw
          case rel => have q1 := HTL.out; have q2 := HS1.out; exact ⟨t + 1, HTL.out, by go_num, Lib.hid (HG9.out.call (below_drewN (Below.refl _ _) _))⟩
          case measure => have := HTL.out; have q2 := HS1.out; first | (simp [intOf]; done) | (simp [intOf]; omega)
      · obtain rfl : t = L.length := by omega
        have hml : M.length < 1000000 := by have := HLM.out; have := HS1.out; omega
        have HML := Lib.hid hml
        clear hml
        have d0 : wr.cell? ⟨xB, 0, none⟩ = some (.int .i64 xi) := HW.out.xc 0 _ rfl
        go_wp2_with (first
          | (go_at_call 8; refine (awake12 _).mono ?_; rintro e w9 ⟨rfl, hb9⟩)
          | (go_at_call 17; (with_reducible refine (HW.out.sta.all HML.out).mono ?_); rintro e w8 ⟨r, rfl, hR, hb8⟩; obtain ⟨ra, rc, rfl, hrc, hra⟩ := obs_of hR; clear hra hR; simp only [] at hrc; rw [HLM.out] at hrc ⊢))
        go_ret
        exact ⟨rfl, HW.out.bl.trans ((bgo hb8 hb9).mono HW.out.bl.size)⟩
theorem i64_ofV {n : Int} (h : (Lit.int .i64 n).wf = true) : -9223372036854775808 ≤ n ∧ n ≤ 9223372036854775807 := by
  simp [Lit.wf, IntKind.min, IntKind.max, IntKind.signed, IntKind.bits] at h
  exact ⟨by omega, by omega⟩
theorem walk_arenaGone {W : World} (q : Option Addr) (n c : Nat) (hx : n ≤ c ∧ c ≤ maxLen ∧ ∃ D, ActsAt W q n D) (wh : Int) (w1 : (Lit.int .i64 wh).wf = true) :
    Calls Try.prog 6 #[.slice q n c, .int .i64 wh] W fun e w' => e = .returned (.bool true) ∧ Below W.heap.size W w' := by
  have hwh := i64_ofV w1
  obtain ⟨h1, h2, D, hD⟩ := hx
  unfold maxLen at h2
  by_cases hn : n ≤ 100
  · exact gone_any q n c D wh W hn hD hwh
  · have hn' : (n : Int) > 100 := by omega
    clear hD
    go_enter Try.func6, Try.ntmps6
    go_wp2_with (go_at_call 8; refine (awake12 _).mono ?_; rintro e w3 ⟨rfl, hb3⟩)
    go_ret
    exact ⟨rfl, hb3⟩
end Go.Proofs.Ytkladhbamkomnaa
