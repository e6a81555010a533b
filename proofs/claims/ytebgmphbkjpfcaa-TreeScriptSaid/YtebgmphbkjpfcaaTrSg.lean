/- chapter 17's own answer: Move. -/
import Derived.Test.YtebgmphbkjpfcaaTrSf
namespace Go.Proofs.Ytebgmphbkjpfcaa
set_option linter.unusedVariables false
set_option linter.unusedSimpArgs false
open Go.ChangeShapes Go.WideShapes Go.ChangeAt Go.RowKit Go.Shelf

theorem bx2 (w : World) (o i p j : Int) : Bx ((w.alloc (slO o i)).alloc (slO p j)) w.heap.size o i ∧ Bx ((w.alloc (slO o i)).alloc (slO p j)) (w.heap.size + 1) p j := by
  have h := Bx.fresh (w.alloc (slO o i)) p j
  rw [World.size_alloc] at h
  exact ⟨(Bx.fresh w o i).call (bal (Below.refl _ _) _), h⟩
theorem bx_same {W W' : World} {s : Nat} {o i : Int} (h : Bx W s o i) (e : W'.heap[s]? = W.heap[s]?) (hz : W.heap.size ≤ W'.heap.size) : Bx W' s o i := by
  have hb := e.trans h.blk
  refine ⟨?_, ?_, fun k => Go.frozen_of_row _ _ _ _ _ hb, Nat.lt_of_lt_of_le h.lt hz, hb⟩ <;> (unfold World.cell?; simp only [hb]; rfl)
theorem rslot_cells {W : World} {rb g c n k : Nat} {l : List Nod} {x : Nod} (h : RefT W rb (.slice (some ⟨g, 0, none⟩) n c) l) (hx : l[k]? = some x) : W.cell? ⟨g, k * 3, none⟩ = some (.int .i64 x.o) ∧ W.cell? ⟨g, k * 3 + 1, none⟩ = some (.int .i64 x.i) ∧ (∀ j, W.frozen? ⟨g, j, none⟩ = false) ∧ g < W.heap.size ∧ g ≠ rb := by
  have e : ∀ j, ((⟨g, 0, none⟩ : Addr).add j) = ⟨g, j, none⟩ := fun j => by unfold Addr.add; split <;> simp_all
  obtain ⟨a1, a2, _⟩ := nodsC_get l k x hx
  have b1 := row_news h _ _ a1
  have b2 := row_news h _ _ a2
  rw [e] at b1 b2
  refine ⟨b1, b2, ?_, (h.row.lt g rfl).2, fun q => h.ne (by rw [← q]; rfl)⟩
  rcases h.row.2 with ⟨q, _⟩ | ⟨g', cap, cur, q, q1, q2, _⟩
  · cases q
  · cases q
    exact fun j => Go.frozen_of_row _ _ _ _ _ q2
theorem bx_copied {W w3 : World} {rb s : Nat} {o i : Int} {u : Value} (h : Bx W s o i) (hg : W.grownBy w3 none) (hs : s ≠ rb) : Bx (w3.setCell ⟨rb, 0, none⟩ u) s o i := by
  refine bx_same h ((Go.heap_setCell_other _ _ _ _ hs).trans (hg.block _ h.lt (by simp))) (by simp; exact hg.size)
theorem row_form3 {w : World} {base : Nat} {e : TypeId} {s : Nat} {v : Value} {n : Nat} {xs : List Value} (h : w.ownsRow base e s v n xs) (h0 : 0 < n) : ∃ g cap, v = .slice (some ⟨g, 0, none⟩) n cap ∧ base ≤ g := by
  rcases h.2 with ⟨_, h⟩ | ⟨g, cap, cur, rfl, hg, _⟩
  · omega
  · exact ⟨g, cap, rfl, hg⟩
set_option maxRecDepth 100000 in
set_option maxHeartbeats 1000000 in
theorem rmove_any (w : World) (rb : Nat) (v : Value) (l : List Nod) (o i p j : Int) (h : RefT w rb v l) (hO : Once l) :
    Calls Try.prog 37 #[.pointer (some ⟨rb, 0, none⟩), slV o i, slV p j] w fun e w' => e = .returned (.int .i64 (moveA l o i p j).2) ∧ (∃ u, RefT w' rb u (moveA l o i p j).1) ∧ OnlyR rb w w' := by
  have hal : Below w.heap.size w ((w.alloc (slO o i)).alloc (slO p j)) := bal (bal (Below.refl _ _) _) _
  have HA := Lib.hid hal
  have HR := Lib.hid h
  have HBX := Lib.hid (bx2 w o i p j)
  unfold moveA
  cases hk : idx l o i with
  | none =>
    have hat : atI l o i = -1 := by unfold atI; rw [hk]
    have HAT := Lib.hid hat
    simp only [Option.isSome_none, Bool.false_eq_true, if_false]
    clear h hal hk hat
    go_enter Try.func37, Try.ntmps37
    go_wp2_with (go_at_call 18; with_reducible refine (rat_any _ rb v l o i (HR.out.call HA.out)).mono ?_; rw [HAT.out]; rintro e w1 ⟨rfl, hb1⟩)
    go_ret
    have hb := HA.out.trans (hb1.mono HA.out.size)
    exact ⟨rfl, ⟨_, HR.out.call hb⟩, .of_below hb⟩
  | some k =>
    obtain ⟨x, hx, hxs⟩ := idx_some hk
    have hkl := (List.getElem?_eq_some_iff.1 hx).1
    have hat : atI l o i = (k : Int) := by unfold atI; rw [hk]
    have HAT := Lib.hid hat
    have hle := h.le
    simp only [Option.isSome_some, if_true]
    have hkx : ¬ (k : Int) < 0 := by omega
    have hrl := (Array.getElem?_eq_some_iff.1 h.blk).1
    cases hk2 : idx l p j with
    | some k2 =>
      have hat2 : atI l p j = (k2 : Int) := by unfold atI; rw [hk2]
      have HAT2 := Lib.hid hat2
      simp only [Option.isSome_some, if_true]
      have hk2x : (0 : Int) ≤ k2 := by omega
      clear h hal hk hat hx hk2 hat2
      go_enter Try.func37, Try.ntmps37
      go_wp2_with (first
        | (go_at_call 18; with_reducible refine (rat_any _ rb v l p j (HR.out.call HB1.out)).mono ?_; rw [HAT2.out]; rintro e w2 ⟨rfl, hb2⟩; have HB2 := Lib.hid (HB1.out.trans (hb2.mono HB1.out.size)))
        | (go_at_call 18; with_reducible refine (rat_any _ rb v l o i (HR.out.call HA.out)).mono ?_; rw [HAT.out]; rintro e w1 ⟨rfl, hb1⟩; have HB1 := Lib.hid (HA.out.trans (hb1.mono HA.out.size)); obtain ⟨b0, b1, bz, bl, bb⟩ := HBX.out.2.call hb1; clear hb1 bb bz))
      go_ret
      exact ⟨rfl, ⟨_, HR.out.call HB2.out⟩, .of_below HB2.out⟩
    | none =>
      have hat2 : atI l p j = -1 := by unfold atI; rw [hk2]
      have HAT2 := Lib.hid hat2
      simp only [Option.isSome_none, Bool.false_eq_true, if_false]
      obtain ⟨i0, hi0, hz0, hz1, hz2⟩ := info_parts infoNd
      have HI0 := Lib.hid hi0
      obtain ⟨g, c, rfl, hg, hgr, hc⟩ := h.getg (by omega)
      have HSW := Lib.hid (swap_set1 hO hx hxs hk2)
      have HX := Lib.hid hx
      have HHK := Lib.hid (show 0 < l.length ∧ k < l.length ∧ l.length ≤ 1000 from ⟨by omega, hkl, hle⟩)
      have HLN := Lib.hid (nodsC_len l)
      clear h hal hk hat hx hk2 hat2 hc hi0
      go_enter Try.func37, Try.ntmps37
      go_upto_region 7 with (first
        | (go_at_call 18; with_reducible refine (rat_any _ rb _ l p j (HR.out.call HB1.out)).mono ?_; rw [HAT2.out]; rintro e w2 ⟨rfl, hb2⟩; have HB2 := Lib.hid (HB1.out.trans (hb2.mono HB1.out.size)); have HBX2 := Lib.hid ((HBX.out.2.call HB1A.out).call hb2); obtain ⟨r0, rz⟩ := cell_box (HR.out.call HB2.out).blk; have HCB := Lib.hid (row_news (HR.out.call HB2.out)); clear hb2)
        | (go_at_call 18; with_reducible refine (rat_any _ rb _ l o i (HR.out.call HA.out)).mono ?_; rw [HAT.out]; rintro e w1 ⟨rfl, hb1⟩; have HB1A := Lib.hid hb1; have HB1 := Lib.hid (HA.out.trans (hb1.mono HA.out.size)); obtain ⟨b0, b1, bz, bl, bb⟩ := HBX.out.2.call hb1; clear hb1 bb bz)
        | (at_builtin; refine wpList_append_own _ rfl _ _ 27 rfl w.heap.size 49 i0 (.agg #[.int .i64 0, .int .i64 0, .int .i64 0]) 3 24 Try.underlying27 HI0.out hz0 hz1 hz2 rfl (by decide) (.slice none 0 0) 0 [] rfl (World.ownsRow_nil _ _ _ _) ⟨g, 0, none⟩ l.length c (nodsC l) rfl HLN.out HCB.out nods_one (by unfold maxLen; omega) (by omega) HB2.out.size ?_; intro u' w3 hown hgrow _; obtain ⟨g3, c3, rfl, hg3⟩ := row_form3 hown (by omega); have HOW := Lib.hid hown; have HGR := Lib.hid hgrow; obtain ⟨m0, mz⟩ := cell_box ((hgrow.block _ (Nat.lt_of_lt_of_le hrl HB2.out.size) (by simp [Value.ownBlock])).trans (HR.out.call HB2.out).blk); clear hown hgrow))
      have hcp := rcopied HR.out HB2.out HOW.out HGR.out
      rw [Nat.zero_add] at hcp
      have hbx4 := bx_copied (rb := rb) (u := .slice (some ⟨g3, 0, none⟩) l.length c3) HBX2.out HGR.out (by omega)
      obtain ⟨w4, hw4⟩ : ∃ w4, w4 = w3.setCell ⟨rb, 0, none⟩ (.slice (some ⟨g3, 0, none⟩) l.length c3) := ⟨_, rfl⟩
      (try rw [Nat.zero_add])
      rw [← hw4] at hcp hbx4 ⊢
      obtain ⟨d0, d1, dz, dl, db⟩ := hbx4
      obtain ⟨n0, nz⟩ := cell_box hcp.1.blk
      obtain ⟨e0, e1, ez, el, en⟩ := rslot_cells hcp.1 HX.out
      have hen : rb ≠ g3 := fun q => en q.symm
      have HFIN := Lib.hid (rset p j hcp.1 HX.out hcp.2 hg3)
      have hkl2 := HHK.out.2.1
      have hkl3 : (k : Int) < l.length := by omega
      have hk0 : (0 : Int) ≤ k := by omega
      clear hw4 hcp m0 mz r0 rz db nz b0 b1
      go_region
      all_goals
        go_wp2
        go_ret
        rw [← HSW.out]
        exact ⟨rfl, ⟨_, HFIN.out.1.call (Below.refl _ _).drew⟩, HFIN.out.2.trans (OnlyR.of_below (Below.refl _ _).drew)⟩
end Go.Proofs.Ytebgmphbkjpfcaa
