/- TreeRebuilt: a tree is told by its slots and depths. -/
import Derived.Test.YtebgmphbkjpfcaaTrV
import Derived.Test.YtebgmphbkjpfcaaTrK
import Derived.Deep.QuietTactic
import Derived.BigQuiet
import Derived.Deep.RegionWith
import Derived.Deep.RegionHeld3
namespace Go.Proofs.Ytebgmphbkjpfcaa
set_option linter.unusedVariables false
set_option linter.unusedSimpArgs false
open Go.ChangeShapes Go.WideShapes Go.ChangeAt Go.RowKit Go.Shelf

theorem played_ex (W : World) (p : Option Addr) (n c : Nat) (D : Nat → ActT) (hD : ActsAt W p n D) (hn : n ≤ 100) :
    Calls Try.prog 24 #[.slice p n c] W fun e w' => ∃ b m, e = .returned (.pointer (some ⟨b, 0, none⟩)) ∧ StK W b m (2 * n) (playL D n) (fun _ => False) w' :=
  (played_any W p n c D hD hn).mono fun e w' ⟨he, h⟩ => ⟨_, _, he, h.k⟩
/-- A tree that holds c, made by as many calls. -/
def StC (w0 : World) (b m : Nat) (c : List Nod) (W : World) : Prop := St w0 b m c.length c W
theorem new_ex (w : World) : Calls Try.prog 11 #[] w fun e w' => ∃ b m, e = .returned (.pointer (some ⟨b, 0, none⟩)) ∧ StC w b m [] w' :=
  (new_st w).mono fun e w' ⟨he, h⟩ => ⟨_, _, he, h⟩
theorem StC.root {w0 W : World} {b m : Nat} {c c' : List Nod} {o i : Int} (h : StC w0 b m c W) (ho : InS o) (hi : InS i) (hn : c.length < 1000000) (he : rootA c o i = (c', 0)) :
    Calls Try.prog 30 #[.pointer (some ⟨b, 0, none⟩), slV o i] W fun e w' => e = .returned (.int .i64 0) ∧ StC w0 b m c' w' := by
  have hl : c'.length = c.length + 1 := by
    unfold rootA at he
    split at he
    · cases he
    · cases he
      rw [List.length_insertIdx]; simp
  have := St.root h ho hi hn
  rw [he] at this
  unfold StC
  rw [hl]
  exact this
theorem StC.child {w0 W : World} {b m : Nat} {c c' : List Nod} {o i p j : Int} (h : StC w0 b m c W) (ho : InS o) (hi : InS i) (hp : InS p) (hj : InS j) (hn : c.length < 1000000) (he : childA c o i p j = (c', 0)) :
    Calls Try.prog 31 #[.pointer (some ⟨b, 0, none⟩), slV o i, slV p j] W fun e w' => e = .returned (.int .i64 0) ∧ StC w0 b m c' w' := by
  have hl : c'.length = c.length + 1 := by
    unfold childA at he
    split at he
    · cases he
    · rename_i k hk
      split at he
      · cases he
      · cases he
        obtain ⟨x, hx, _⟩ := idx_some hk
        have hkl := (List.getElem?_eq_some_iff.1 hx).1
        rw [List.length_insertIdx, if_pos (by omega)]
  have := St.child h ho hi hp hj hn
  rw [he] at this
  unfold StC
  rw [hl]
  exact this
theorem same_same (w : World) (u v : Value) (l : List Nod) (hu : NodesAt w u l) (hv : NodesAt w v l) (hn : l.length < 1000000) :
    Calls Try.prog 21 #[u, v] w fun e w' => e = .returned (.bool true) ∧ ∃ j, w' = w.drewN j := by
  have := same_nodes w u v l l hu hv hn hn
  rwa [decide_eq_true rfl] at this
theorem nodes_nil (W : World) : NodesAt W (.slice none 0 0) [] := .inl ⟨rfl, rfl⟩
theorem four_cells {w2 w4 : World} {g a b : Nat} {x y : Nod} (hg : g < w2.heap.size) (h1 : w2.cell? ⟨g, a * 3, none⟩ = some (.int .i64 y.o) ∧ w2.cell? ⟨g, a * 3 + 1, none⟩ = some (.int .i64 y.i) ∧ w2.cell? ⟨g, a * 3 + 2, none⟩ = some (.int .i64 y.d))
    (h2 : w2.cell? ⟨g, b * 3, none⟩ = some (.int .i64 x.o) ∧ w2.cell? ⟨g, b * 3 + 1, none⟩ = some (.int .i64 x.i) ∧ w2.cell? ⟨g, b * 3 + 2, none⟩ = some (.int .i64 x.d)) (hb : Below w2.heap.size w2 w4) :
    w4.cell? ⟨g, a * 3, none⟩ = some (.int .i64 y.o) ∧ w4.cell? ⟨g, a * 3 + 1, none⟩ = some (.int .i64 y.i) ∧ w4.cell? ⟨g, b * 3, none⟩ = some (.int .i64 x.o) ∧ w4.cell? ⟨g, b * 3 + 1, none⟩ = some (.int .i64 x.i) :=
  ⟨(hb.cell (p := ⟨g, _, none⟩) hg).trans h1.1, (hb.cell (p := ⟨g, _, none⟩) hg).trans h1.2.1, (hb.cell (p := ⟨g, _, none⟩) hg).trans h2.1, (hb.cell (p := ⟨g, _, none⟩) hg).trans h2.2.1⟩
theorem cur_len (l : List Nod) (D : Int) (i : Nat) : (cur l D i).length ≤ l.length := (cur_sub l D i).length_le
theorem StC.below {w0 W : World} {b m : Nat} {c : List Nod} (h : StC w0 b m c W) : Below w0.heap.size w0 W := St.below h
theorem StC.call {w0 W W' : World} {b m : Nat} {c : List Nod} (h : StC w0 b m c W) (hb : Below W.heap.size W W') : StC w0 b m c W' := St.call h hb
theorem StC.all {w0 W : World} {b m : Nat} {c : List Nod} (h : StC w0 b m c W) (hn : c.length < 1000000) :
    Calls Try.prog 16 #[.pointer (some ⟨b, 0, none⟩)] W fun e w' => ∃ v, e = .returned v ∧ NodesAt w' v c ∧ Below W.heap.size W w' := by
  refine (St.all h hn).mono ?_
  rintro e w' ⟨v, he, hr, hb⟩
  exact ⟨v, he, nodes_row hr, hb⟩
set_option maxRecDepth 100000 in
set_option maxHeartbeats 1000000 in
theorem rebuilt_any (q : Option Addr) (n c : Nat) (D : Nat → ActT) (W : World) (hn : n ≤ 60) (hD : ActsAt W q n D) :
    Calls Try.prog 9 #[.slice q n c] W fun e w' => e = .returned (.bool true) ∧ Below W.heap.size W w' := by
  have HD := Lib.hid hD
  have hn' : ¬ (n : Int) > 60 := by omega
  have HN3 : Hid (2 * n ≤ 200) := Lib.hid (by omega)
  have HN2 : Hid (n ≤ 100) := Lib.hid (by omega)
  have hdep := dep_play D n
  clear hD
  go_enter Try.func9, Try.ntmps9
  go_wp2_with (first
    | (go_at_call 24; with_reducible refine (played_ex _ q n c D HD.out HN2.out).mono ?_; rintro e w1 ⟨b, m, rfl, hS⟩; have HT := Lib.hid (hS.mono HN3.out); generalize playL D n = l at *; clear hS)
    | (go_at_call 16; with_reducible refine (HT.out.all (by decide)).mono ?_; rintro e w2 ⟨v, rfl, hN, hT, hK, hb⟩; have HW := Lib.hid hN; have HT := Lib.hid hT; clear hN hT hK hb)
    | (go_at_call 11; with_reducible refine (new_ex _).mono ?_; rintro e w3 ⟨b2, m2, rfl, hS⟩; have HS0 := Lib.hid hS; clear hS))
  have hlen : l.length ≤ 200 := HT.out.st.len
  have HO := Lib.hid HT.out.st.once
  have HM := Lib.hid HT.out.st.small
  have HDEP := Lib.hid hdep
  have HB := Lib.hid HT.out.below
  clear hdep HT
  rcases HW.out with ⟨rfl, rfl⟩ | ⟨g, cp, rfl, hg, hcell⟩
  · go_wp2
    refine wp_loop_rounds 1 ?_
    rw [rounds_succ]
    go_wp2
    refine wp_loop_rounds 1 ?_
    rw [rounds_succ]
    go_wp2_with (first
      | (go_at_call 16; with_reducible refine (HS0.out.all (by decide)).mono ?_; rintro e w4 ⟨u, rfl, hu, hb4⟩; have HU := Lib.hid hu; have HB4 := Lib.hid hb4; clear hu hb4)
      | (go_at_call 21; with_reducible refine (same_same _ _ _ [] HU.out (nodes_nil _) (by decide)).mono ?_; rintro e w5 ⟨rfl, j5, rfl⟩)
      | (go_at_call 10; refine (awake17 _).mono ?_; rintro e w6 ⟨rfl, hb6⟩))
    go_ret
    exact ⟨rfl, bgo (below_drewN (bgo (HB.out.trans (HS0.out.below.mono HB.out.size)) HB4.out) j5) hb6⟩
  · have HC := Lib.hid hcell
    have HG := Lib.hid hg
    clear hcell hg
    generalize hL : l.length = L at *
    have HL := Lib.hid hL
    clear hL
    go_loopw [5] (fun i wr => ∃ (k : Nat), k ≤ L ∧ i = .int .i64 k ∧ Hid (StC w2 b2 m2 ((l.take k).filter (fun x => decide (x.d < 1))) wr)) (fun i _ => L - (intOf i).toNat)
    case atStart => exact ⟨0, by omega, rfl, by simpa using HS0⟩
    case round =>
      obtain ⟨k, hk, rfl, HS⟩ := hrel
      by_cases hlt : k < L
      · have hLL := HL.out
        obtain ⟨x, hx⟩ : ∃ x, l[k]? = some x := ⟨l[k]'(by omega), List.getElem?_eq_getElem _⟩
        obtain ⟨y0, y1, y2⟩ := HC.out k x hx
        have hbw := HS.out.below
        have x0 := (hbw.cell (p := ⟨g, _, none⟩) HG.out).trans y0
        have x1 := (hbw.cell (p := ⟨g, _, none⟩) HG.out).trans y1
        have x2 := (hbw.cell (p := ⟨g, _, none⟩) HG.out).trans y2
        have hlt' : (k : Int) < L := by omega
        have hxi := HM.out k x hx
        have hxp := HDEP.out.pos k x hx
        have HX := Lib.hid hx
        have HXI := Lib.hid hxi
        have HCL : Hid (((l.take k).filter (fun x => decide (x.d < 1))).length < 1000000) := Lib.hid (by
          have := List.length_filter_le (fun x : Nod => decide (x.d < 1)) (l.take k)
          have := List.length_take_le k l
          omega)
        clear hLL y0 y1 y2 hbw hxi
        by_cases hx0 : x.d = 0
        · have HP := Lib.hid (root_put HO.out HX.out hx0)
          rw [hx0] at x2
          clear hx hxp hx0
          go_wp2_with (go_at_call 30; with_reducible refine (HS.out.root HXI.out.2.1 HXI.out.2.2 HCL.out HP.out).mono ?_; rintro e w4 ⟨rfl, hS4⟩)
          go_roundw
          case rel => exact ⟨k + 1, by omega, by go_num, Lib.hid hS4⟩
          case measure => first | (simp [intOf]; done) | (simp [intOf]; omega)
        · have hcur : (l.take (k + 1)).filter (fun x => decide (x.d < 1)) = (l.take k).filter (fun x => decide (x.d < 1)) := by
            rw [take_at HX.out, List.filter_append]
            have : [x].filter (fun x => decide (x.d < 1)) = [] := by simp; omega
            rw [this, List.append_nil]
          have HCUR := Lib.hid hcur
          generalize hxd : x.d = xd at x2 hx0 hxp
          have hx0' : (xd == 0) = false := beq_eq_false_iff_ne.2 hx0
          clear hx hxd hcur hxp
          go_wp2
          go_roundw
          case rel => exact ⟨k + 1, by omega, by go_num, by rw [HCUR.out]; exact HS⟩
          case measure => first | (simp [intOf]; done) | (simp [intOf]; omega)
      · obtain rfl : k = L := by omega
        have hfull : l.take k = l := List.take_of_length_le (by have := HL.out; omega)
        rw [hfull] at HS
        have HS1 := HS
        clear hfull HS
        go_wp2
        go_loopw [6] (fun d wr => ∃ (E : Nat), 1 ≤ E ∧ E ≤ k + 1 ∧ d = .int .i64 E ∧ Hid (StC w2 b2 m2 (l.filter (fun x => decide (x.d < (E : Int)))) wr)) (fun d _ => k + 1 - (intOf d).toNat)
        case atStart => exact ⟨1, by omega, by omega, rfl, HS1⟩
        case round =>
          clear HS1
          obtain ⟨E, hE1, hE2, rfl, HS⟩ := hrel
          by_cases hE : E ≤ k
          · have hE' : (E : Int) ≤ k := by omega
            have HST : Hid (StC w2 b2 m2 (cur l (E : Int) k) wr) := Lib.hid (by
              have h := HS.out
              have e := cur_start l (E : Int)
              rw [HL.out] at e
              rw [e]
              exact h)
            clear HS
            go_wp2
            go_loopw [7] (fun s wi => ∃ (i : Nat), i ≤ k ∧ s = .int .i64 ((i : Int) - 1) ∧ Hid (StC w2 b2 m2 (cur l (E : Int) i) wi)) (fun s _ => (intOf s + 1).toNat)
            case atStart => exact ⟨k, by omega, by first | rfl | go_num, HST⟩
            case round =>
              obtain ⟨i, hi, rfl, HSI⟩ := hrel
              rcases i with _ | ii
              · have hcl := cur_end l (E : Int)
                have HCL := Lib.hid hcl
                clear hcl
                go_wp2
                go_roundw
                case rel => exact ⟨E + 1, by omega, by omega, by go_num, by
                  have h := HSI.out
                  rw [HCL.out] at h
                  exact Lib.hid h⟩
                case measure => first | (simp [intOf]; done) | (simp [intOf]; omega)
              · rw [show ((ii + 1 : Nat) : Int) - 1 = (ii : Int) by omega]
                have hLL := HL.out
                obtain ⟨x, hx⟩ : ∃ x, l[ii]? = some x := ⟨l[ii]'(by omega), List.getElem?_eq_getElem _⟩
                obtain ⟨y0, y1, y2⟩ := HC.out ii x hx
                have hbw := HSI.out.below
                have x0 := (hbw.cell (p := ⟨g, _, none⟩) HG.out).trans y0
                have x1 := (hbw.cell (p := ⟨g, _, none⟩) HG.out).trans y1
                have x2 := (hbw.cell (p := ⟨g, _, none⟩) HG.out).trans y2
                have HXI := Lib.hid (HM.out ii x hx)
                have HX := Lib.hid hx
                have hik : (ii : Int) < k := by omega
                have hi0 : (0 : Int) ≤ ii := by omega
                have HCL : Hid ((cur l (E : Int) (ii + 1)).length < 1000000) := Lib.hid (by have := cur_len l (E : Int) (ii + 1); omega)
                clear hLL y0 y1 y2 hbw hx
                by_cases hd : x.d = (E : Int)
                · rw [hd] at x2
                  have HXD := Lib.hid hd
                  have hii : 1 ≤ ii := by
                    rcases Nat.eq_zero_or_pos ii with h0 | h0
                    · have := HDEP.out.zero x (by have := HX.out; rw [h0] at this; exact this)
                      omega
                    · exact h0
                  clear hd
                  go_wp2
                  go_loopw [8] (fun s wj => ∃ (r : Nat), r < ii ∧ s = .int .i64 (r : Int) ∧ wj = wr ∧ Hid (∀ (j : Nat) (z : Nod), r < j → j < ii → l[j]? = some z → (E : Int) ≤ z.d)) (fun s _ => (intOf s).toNat)
                  case atStart =>
                    refine ⟨ii - 1, by omega, ?_, rfl, Lib.hid (fun j z h1 h2 => by omega)⟩
                    have : ((ii - 1 : Nat) : Int) = (ii : Int) - 1 := by omega
                    rw [this]
                  case round =>
                    obtain ⟨r, hr, rfl, rfl, HJ⟩ := hrel
                    have hLL := HL.out
                    obtain ⟨y, hy⟩ : ∃ y, l[r]? = some y := ⟨l[r]'(by omega), List.getElem?_eq_getElem _⟩
                    obtain ⟨z0, z1, z2⟩ := HC.out r y hy
                    have hbw := HSI.out.below
                    have v0 := (hbw.cell (p := ⟨g, _, none⟩) HG.out).trans z0
                    have v1 := (hbw.cell (p := ⟨g, _, none⟩) HG.out).trans z1
                    have v2 := (hbw.cell (p := ⟨g, _, none⟩) HG.out).trans z2
                    have hrk : (r : Int) < k := by omega
                    have hr0 : (0 : Int) ≤ r := by omega
                    have HY := Lib.hid hy
                    have HYI := Lib.hid (HM.out r y hy)
                    clear hLL z0 z1 z2 hbw hy
                    by_cases hyd : (E : Int) ≤ y.d
                    · have hr1 : 1 ≤ r := by
                        rcases Nat.eq_zero_or_pos r with h0 | h0
                        · have := HDEP.out.zero y (by have := HY.out; rw [h0] at this; exact this)
                          omega
                        · exact h0
                      have HJ2 : Hid (∀ (j : Nat) (z : Nod), r - 1 < j → j < ii → l[j]? = some z → (E : Int) ≤ z.d) := Lib.hid (fun j z h1 h2 h3 => by
                        rcases Nat.lt_or_ge r j with h4 | h4
                        · exact HJ.out j z h4 h2 h3
                        · have : j = r := by omega
                          rw [this, HY.out] at h3
                          cases h3
                          exact hyd)
                      generalize y.d = yd at v2 hyd
                      go_wp2
                      go_roundw
                      case rel => exact ⟨r - 1, by omega, by
                        have : ((r - 1 : Nat) : Int) = (r : Int) - 1 := by omega
                        first | (rw [this]; done) | (rw [this]; go_num), by first | rfl | trivial, HJ2⟩
                      case measure => first | (simp [intOf]; done) | (simp [intOf]; omega)
                    · have HP := Lib.hid (cur_put HO.out HDEP.out HX.out HXD.out hr HY.out (by omega) HJ.out)
                      generalize y.d = yd at v2 hyd
                      have hneg : decide ((r : Int) < 0) = false := decide_eq_false (by omega)
                      go_wp2
                      clear hyd v2
                      have HCH := Lib.hid (StC.child (W := wr.drew) (HSI.out.call (Below.refl _ _).drew) HYI.out.2.1 HYI.out.2.2 HXI.out.2.1 HXI.out.2.2 HCL.out HP.out)
                      go_region_held3 (fun w' => w'.cell? ⟨g, r * 3, none⟩ = some (.int .i64 y.o) ∧ w'.cell? ⟨g, r * 3 + 1, none⟩ = some (.int .i64 y.i) ∧ w'.cell? ⟨g, ii * 3, none⟩ = some (.int .i64 x.o) ∧ w'.cell? ⟨g, ii * 3 + 1, none⟩ = some (.int .i64 x.i))
                        (first | exact ⟨g0, g1, g2, g3⟩ | exact ⟨v0, v1, x0, x1⟩)
                        (first
                          | (go_at_call 31; with_reducible refine HCH.out.mono ?_; rintro e w4 ⟨rfl, hS4⟩; obtain ⟨g0, g1, g2, g3⟩ := four_cells HG.out (HC.out r y HY.out) (HC.out ii x HX.out) hS4.below))
                      all_goals
                        go_wp2
                        go_roundw
                        case rel => exact ⟨ii, by omega, rfl, Lib.hid hS4⟩
                        case measure => first | (simp [intOf]; done) | (simp [intOf]; omega)
                · have hcs := cur_skip HX.out hd
                  have HCS := Lib.hid hcs
                  generalize x.d = xd at x2 hd
                  clear hcs
                  go_wp2
                  go_roundw
                  case rel => exact ⟨ii, by omega, rfl, by
                    have h := HSI.out
                    rw [HCS.out] at h
                    exact Lib.hid h⟩
                  case measure => first | (simp [intOf]; done) | (simp [intOf]; omega)
          · have hEk : E = k + 1 := by omega
            have hfull := all_laid HDEP.out
            rw [HL.out] at hfull
            have h := HS.out
            rw [hEk] at h
            have h2 : StC w2 b2 m2 l wr := by
              have e : ((k + 1 : Nat) : Int) = (k : Int) + 1 := by omega
              rw [e, hfull] at h
              exact h
            have HSF := Lib.hid h2
            have HWV : Hid (NodesAt wr (.slice (some ⟨g, 0, none⟩) k cp) l) := Lib.hid (by
              have := HW.out.call h2.below
              exact this)
            have HLL : Hid (l.length < 1000000) := Lib.hid (by have := HL.out; omega)
            have hE' : ¬ (E : Int) ≤ k := by omega
            clear h h2 hfull hEk HS
            go_wp2_with (first
              | (go_at_call 16; with_reducible refine (HSF.out.all HLL.out).mono ?_; rintro e w4 ⟨u, rfl, hu, hb4⟩; have HU := Lib.hid hu; have HB4 := Lib.hid hb4; have HWV := Lib.hid (HWV.out.call hb4); clear hu hb4)
              | (go_at_call 21; with_reducible refine (same_same _ _ _ l HU.out HWV.out HLL.out).mono ?_; rintro e w5 ⟨rfl, j5, rfl⟩)
              | (go_at_call 10; refine (awake17 _).mono ?_; rintro e w6 ⟨rfl, hb6⟩))
            go_ret
            exact ⟨rfl, bgo (below_drewN (bgo (HB.out.trans (HSF.out.below.mono HB.out.size)) HB4.out) j5) hb6⟩
theorem walk_treeRebuilt {W : World} (q : Option Addr) (n c : Nat) (hx : n ≤ c ∧ c ≤ maxLen ∧ ∃ D, ActsAt W q n D) :
    Calls Try.prog 9 #[.slice q n c] W fun e w' => e = .returned (.bool true) ∧ Below W.heap.size W w' := by
  obtain ⟨h1, h2, D, hD⟩ := hx
  unfold maxLen at h2
  by_cases hn : n ≤ 60
  · exact rebuilt_any q n c D W hn hD
  · have hn' : (n : Int) > 60 := by omega
    clear hD
    go_enter Try.func9, Try.ntmps9
    go_wp2_with (go_at_call 10; refine (awake17 _).mono ?_; rintro e w3 ⟨rfl, hb3⟩)
    go_ret
    exact ⟨rfl, hb3⟩
end Go.Proofs.Ytebgmphbkjpfcaa
