/- chapter 17's own answer: Child. -/
import Derived.Test.YtebgmphbkjpfcaaTrSi
namespace Go.Proofs.Ytebgmphbkjpfcaa
set_option linter.unusedVariables false
set_option linter.unusedSimpArgs false
open Go.ChangeShapes Go.WideShapes Go.ChangeAt Go.RowKit Go.Shelf

theorem nodsC_app (a b : List Nod) : nodsC (a ++ b) = nodsC a ++ nodsC b := by simp [nodsC]
theorem add_cell (g a j : Nat) : ((⟨g, a, none⟩ : Addr).add j) = ⟨g, a + j, none⟩ := by unfold Addr.add; split <;> simp_all
theorem pre_news {W : World} {rb g c n k : Nat} {l : List Nod} (h : RefT W rb (.slice (some ⟨g, 0, none⟩) n c) l) : ∀ j u, (nodsC (l.take k))[j]? = some u → W.cell? ((⟨g, 0, none⟩ : Addr).add j) = some u := by
  intro j u hj
  refine row_news h j u ?_
  have hjl := (List.getElem?_eq_some_iff.1 hj).1
  have e : nodsC l = nodsC (l.take k) ++ nodsC (l.drop k) := by rw [← nodsC_app, List.take_append_drop]
  rw [e, List.getElem?_append_left hjl]
  exact hj
theorem suf_news {W : World} {rb g c n k : Nat} {l : List Nod} (h : RefT W rb (.slice (some ⟨g, 0, none⟩) n c) l) (hk : k ≤ l.length) : ∀ j u, (nodsC (l.drop k))[j]? = some u → W.cell? ((⟨g, k * 3, none⟩ : Addr).add j) = some u := by
  intro j u hj
  have hlen : (nodsC (l.take k)).length = k * 3 := by rw [nodsC_len, List.length_take]; congr 1; omega
  have := row_news h (k * 3 + j) u (by
    have e : nodsC l = nodsC (l.take k) ++ nodsC (l.drop k) := by rw [← nodsC_app, List.take_append_drop]
    rw [e, List.getElem?_append_right (by omega), hlen, show k * 3 + j - k * 3 = j by omega]
    exact hj)
  rw [add_cell] at this ⊢
  rwa [Nat.zero_add] at this
theorem child_list {l : List Nod} {k : Nat} (x : Nod) (hk : k < l.length) : l.take (k + 1) ++ [x] ++ l.drop (k + 1) = l.insertIdx (k + 1) x := by
  apply List.ext_getElem?
  intro q
  rw [List.append_assoc]
  have h1 : (l.take (k + 1)).length = k + 1 := by rw [List.length_take]; omega
  rcases Nat.lt_trichotomy q (k + 1) with h | h | h
  · rw [List.getElem?_append_left (by omega), ins_lo h, List.getElem?_take, if_pos h]
  · subst h
    rw [List.getElem?_append_right (by omega), h1, Nat.sub_self, ins_at (by omega)]
    rfl
  · rw [List.getElem?_append_right (by omega), h1]
    obtain ⟨r, rfl⟩ : ∃ r, q = r + 1 := ⟨q - 1, by omega⟩
    rw [ins_hi (by omega), show r + 1 - (k + 1) = (r - (k + 1)) + 1 by omega]
    rw [List.singleton_append, List.getElem?_cons_succ, List.getElem?_drop]
    congr 1; omega
attribute [-go_sem] Builtin.append_
set_option maxRecDepth 100000 in
set_option maxHeartbeats 1000000 in
theorem rchild_any (w : World) (rb : Nat) (v : Value) (l : List Nod) (o i p j : Int) (h : RefT w rb v l) (hlen : l.length < 1000) (hdp : ∀ x ∈ l, x.d < 1000) :
    Calls Try.prog 35 #[.pointer (some ⟨rb, 0, none⟩), slV o i, slV p j] w fun e w' => e = .returned (.int .i64 (childA l o i p j).2) ∧ (∃ u, RefT w' rb u (childA l o i p j).1) ∧ OnlyR rb w w' := by
  have hal : Below w.heap.size w ((w.alloc (slO o i)).alloc (slO p j)) := bal (bal (Below.refl _ _) _) _
  have HA := Lib.hid hal
  have HR := Lib.hid h
  have HBX := Lib.hid (bx2 w o i p j)
  unfold childA
  cases hk : idx l o i with
  | none =>
    have hat : atI l o i = -1 := by unfold atI; rw [hk]
    have HAT := Lib.hid hat
    simp only
    clear h hal hk hat
    go_enter Try.func35, Try.ntmps35
    go_wp2_with (go_at_call 18; with_reducible refine (rat_any _ rb v l o i (HR.out.call HA.out)).mono ?_; rw [HAT.out]; rintro e w1 ⟨rfl, hb1⟩)
    go_ret
    have hb := HA.out.trans (hb1.mono HA.out.size)
    exact ⟨rfl, ⟨_, HR.out.call hb⟩, .of_below hb⟩
  | some k =>
    obtain ⟨x, hx, hxs⟩ := idx_some hk
    have hkl := (List.getElem?_eq_some_iff.1 hx).1
    have hat : atI l o i = (k : Int) := by unfold atI; rw [hk]
    have HAT := Lib.hid hat
    have hle := h.le
    have hxd : ((l[k]?).map Nod.d).getD 0 = x.d := by rw [hx]; rfl
    simp only [hxd]
    have hkx : ¬ (k : Int) < 0 := by omega
    have hrl := (Array.getElem?_eq_some_iff.1 h.blk).1
    cases hk2 : idx l p j with
    | some k2 =>
      have hat2 : atI l p j = (k2 : Int) := by unfold atI; rw [hk2]
      have HAT2 := Lib.hid hat2
      simp only [Option.isSome_some, if_true]
      have hk2x : (0 : Int) ≤ k2 := by omega
      clear h hal hk hat hx hk2 hat2
      go_enter Try.func35, Try.ntmps35
      go_wp2_with (first
        | (go_at_call 18; with_reducible refine (rat_any _ rb v l p j (HR.out.call HB1.out)).mono ?_; rw [HAT2.out]; rintro e w2 ⟨rfl, hb2⟩; have HB2 := Lib.hid (HB1.out.trans (hb2.mono HB1.out.size)))
        | (go_at_call 18; with_reducible refine (rat_any _ rb v l o i (HR.out.call HA.out)).mono ?_; rw [HAT.out]; rintro e w1 ⟨rfl, hb1⟩; have HB1 := Lib.hid (HA.out.trans (hb1.mono HA.out.size)); obtain ⟨b0, b1, bz, bl, bb⟩ := HBX.out.2.call hb1; clear hb1 bb bz))
      go_ret
      exact ⟨rfl, ⟨_, HR.out.call HB2.out⟩, .of_below HB2.out⟩
    | none =>
      have hat2 : atI l p j = -1 := by unfold atI; rw [hk2]
      have HAT2 := Lib.hid hat2
      simp only [Option.isSome_none, Bool.false_eq_true, if_false]
      obtain ⟨i0, hi0, hz0, hz1, hz2⟩ := info_parts infoNd
      have HI0 := Lib.hid hi0
      obtain ⟨g, c, rfl, hg, hgr, hc⟩ := h.getg (by omega)
      have HX := Lib.hid hx
      have hdx := h.dep x (List.mem_of_getElem? hx)
      have hdx2 := hdp x (List.mem_of_getElem? hx)
      have hwr := IntWalk.i64_in (n := x.d + 1) (by omega)
      have HTL := Lib.hid (show (nodsC (l.take (k + 1))).length = (k + 1) * 3 ∧ (nodsC (l.drop (k + 1))).length = (l.length - (k + 1)) * 3 ∧ k < l.length ∧ l.length < 1000 from ⟨by rw [nodsC_len, List.length_take]; congr 1; omega, by rw [nodsC_len, List.length_drop], hkl, hlen⟩)
      have hk1 : (0 : Int) ≤ (k : Int) + 1 := by omega
      have hk2' : (k : Int) + 1 ≤ l.length := by omega
      have hcap : l.length ≤ c := by
        rcases h.row.2 with ⟨q, _⟩ | ⟨g', cap, cur, q, _, _, q4, _⟩
        · cases q
        · cases q; exact q4
      have hcap2 : (k : Int) + 1 ≤ c := by omega
      clear h hal hk hat hx hk2 hat2 hc hi0
      go_enter Try.func35, Try.ntmps35
      go_upto_region 7 with (first
        | (go_at_call 18; with_reducible refine (rat_any _ rb _ l p j (HR.out.call HB1.out)).mono ?_; rw [HAT2.out]; rintro e w2 ⟨rfl, hb2⟩; have HB2 := Lib.hid (HB1.out.trans (hb2.mono HB1.out.size)); have HBX2 := Lib.hid ((HBX.out.2.call HB1A.out).call hb2); clear hb2)
        | (go_at_call 18; with_reducible refine (rat_any _ rb _ l o i (HR.out.call HA.out)).mono ?_; rw [HAT.out]; rintro e w1 ⟨rfl, hb1⟩; have HB1A := Lib.hid hb1; have HB1 := Lib.hid (HA.out.trans (hb1.mono HA.out.size)); obtain ⟨b0, b1, bz, bl, bb⟩ := HBX.out.2.call hb1; clear hb1 bb bz))
      have HR2 := Lib.hid (HR.out.call HB2.out)
      obtain ⟨r0, rz⟩ := cell_box HR2.out.blk
      clear b0 b1
      have HCB := Lib.hid (pre_news (k := k + 1) HR2.out)
      go_upto_region 8 with (at_builtin; refine wpList_append_own _ rfl _ _ 27 rfl w.heap.size 49 i0 (.agg #[.int .i64 0, .int .i64 0, .int .i64 0]) 3 24 Try.underlying27 HI0.out hz0 hz1 hz2 rfl (by decide) (.slice none 0 0) 0 [] rfl (World.ownsRow_nil _ _ _ _) ⟨g, 0, none⟩ (k + 1) c (nodsC (l.take (k + 1))) rfl HTL.out.1 HCB.out nods_one (by unfold maxLen; omega) (by omega) HB2.out.size ?_; intro u' w3 hown hgrow _; rw [Nat.zero_add, List.nil_append] at hown; obtain ⟨g3, c3, rfl, hg3⟩ := row_form3 hown (by omega); have HOW := Lib.hid hown; have HGR := Lib.hid hgrow; clear hown hgrow)
      have hb3 : Below w.heap.size w w3 := HB2.out.grown HGR.out HB2.out.size (fun k e => by cases e)
      have hR3 := HR.out.call hb3
      obtain ⟨_, _, a2⟩ := nodsC_get l k x HX.out
      have x2 := row_news hR3 _ _ a2
      rw [add_cell, Nat.zero_add] at x2
      have hbx3 := bx_grown HBX2.out HGR.out (by simp [Value.ownBlock])
      have htl : (l.take (k + 1)).length = k + 1 := by rw [List.length_take]; have := HTL.out.2.2.1; omega
      have hown3 : ((w3.alloc (.cells #[.int .i64 p, .int .i64 j, .int .i64 (x.d + 1)] 49)).drew).ownsRow w.heap.size 49 3 (.slice (some ⟨g3, 0, none⟩) (k + 1) c3) (l.take (k + 1)).length (nodsC (l.take (k + 1))) := by
        rw [htl]
        exact HOW.out.alloc _
      have hbA : Below w.heap.size w ((w3.alloc (.cells #[.int .i64 p, .int .i64 j, .int .i64 (x.d + 1)] 49)).drew) := (bal hb3 _).drew
      obtain ⟨g4, c4, w4, hrun, hown4, hgr4⟩ := one_run (w := w) w3.heap.size ⟨p, j, x.d + 1⟩ hown3 (World.alloc_heap_new w3 _) (by rw [htl]; have := HTL.out.2.2; omega) hbA.size
      have hb4 : Below w.heap.size w w4 := hbA.grown hgr4 hbA.size (fun k e => (hown3.lt k e).1)
      have HR4 := Lib.hid (HR.out.call hb4)
      have HB4 := Lib.hid hb4
      have HOW4 := Lib.hid hown4
      have HSF := Lib.hid (suf_news (k := k + 1) HR4.out (by have := HTL.out.2.2.1; omega))
      obtain ⟨r3, rz3⟩ := cell_box hR3.blk
      obtain ⟨r4, rz4⟩ := cell_box HR4.out.blk
      obtain ⟨b0, b1, bl3⟩ := bx_all hbx3
      rw [htl] at hrun
      have hz3 : rb < w3.heap.size := Nat.lt_of_lt_of_le hrl hb3.size
      have hz3' : g < w3.heap.size := Nat.lt_of_lt_of_le hg hb3.size
      clear r0 rz hb3 hR3 hbx3 hown3 hbA hown4 hgr4 hb4 a2 htl
      go_region
      all_goals
        have htl : (l.take (k + 1) ++ [(⟨p, j, x.d + 1⟩ : Nod)]).length = k + 1 + 1 := by rw [List.length_append, List.length_take]; have := HTL.out.2.2.1; simp; omega
        have hown4 := HOW4.out
        have htk : (l.take (k + 1)).length = k + 1 := by rw [List.length_take]; have := HTL.out.2.2.1; omega
        rw [htl, htk] at hown4
        clear htk
        have HOW5 := Lib.hid hown4
        clear hown4
        have hsuf : ∃ u w5, (Builtin.append_ #[27, 27] 27 #[.slice (some ⟨g4, 0, none⟩) (k + 1 + 1) c4, if c = k + 1 then .slice (some ⟨g, 0, none⟩) (l.length - (k + 1)) 0 else .slice (some ⟨g, (k + 1) * 3, none⟩) (l.length - (k + 1)) (c - (k + 1))]).run Try.prog w4 = .ok u w5 ∧ w5.ownsRow w.heap.size 49 3 u (k + 1 + 1 + (l.length - (k + 1))) (nodsC (l.take (k + 1) ++ [(⟨p, j, x.d + 1⟩ : Nod)]) ++ nodsC (l.drop (k + 1))) ∧ w4.grownBy w5 (some g4) := by
          split
          · rename_i hcc
            have hl0 : l.length - (k + 1) = 0 := by omega
            have hdr : l.drop (k + 1) = [] := List.drop_eq_nil_iff.2 (by omega)
            rw [hl0, hdr]
            obtain ⟨u, w5, q1, q2, q3, _⟩ := run_append_own_at (P := Try.prog) (w := w4) w.heap.size 27 27 49 i0 (.agg #[.int .i64 0, .int .i64 0, .int .i64 0]) 3 24 Try.underlying27 HI0.out hz0 hz1 hz2 rfl (by decide) (.slice (some ⟨g4, 0, none⟩) (k + 1 + 1) c4) (k + 1 + 1) _ HOW5.out ⟨g, 0, none⟩ 0 0 (nodsC []) rfl (fun j u hj => by simp [nodsC] at hj) nods_one (by unfold maxLen; omega) (by omega) HB4.out.size
            exact ⟨u, w5, q1, q2, q3⟩
          · obtain ⟨u, w5, q1, q2, q3, _⟩ := run_append_own_at (P := Try.prog) (w := w4) w.heap.size 27 27 49 i0 (.agg #[.int .i64 0, .int .i64 0, .int .i64 0]) 3 24 Try.underlying27 HI0.out hz0 hz1 hz2 rfl (by decide) (.slice (some ⟨g4, 0, none⟩) (k + 1 + 1) c4) (k + 1 + 1) _ HOW5.out ⟨g, (k + 1) * 3, none⟩ (l.length - (k + 1)) (c - (k + 1)) (nodsC (l.drop (k + 1))) HTL.out.2.1 HSF.out nods_one (by unfold maxLen; omega) (by omega) HB4.out.size
            exact ⟨u, w5, q1, q2, q3⟩
        obtain ⟨u, w5, hrun5, hown5, hgr5⟩ := hsuf
        have hb5 : Below w.heap.size w w5 := HB4.out.grown hgr5 HB4.out.size (fun k e => by cases e; exact (HOW5.out.lt _ rfl).1)
        rw [← nodsC_app, child_list _ HTL.out.2.2.1] at hown5
        have hlen5 : (l.insertIdx (k + 1) (⟨p, j, x.d + 1⟩ : Nod)).length = k + 1 + 1 + (l.length - (k + 1)) := by
          rw [List.length_insertIdx]; split <;> omega
        obtain ⟨g5, c5, hu5, _⟩ := row_form3 hown5 (by omega)
        subst hu5
        obtain ⟨r5, rz5⟩ := cell_box (HR.out.call hb5).blk
        have HST := Lib.hid (HR.out.store hb5 (by rw [hlen5]; exact hown5) (by omega) (by
          intro y hy
          rcases List.mem_insertIdx (by omega) |>.1 hy with q | q
          · subst q; simp; omega
          · exact HR.out.dep y q))
        clear htl hown5 hgr5 hb5 hlen5
        by_cases hcc : c = k + 1
        · rw [if_pos hcc] at hrun5
          go_wp2
          trace_state
          go_ret
          exact ⟨rfl, ⟨_, HST.out.1⟩, HST.out.2⟩
        · rw [if_neg hcc] at hrun5
          go_wp2
          go_ret
          exact ⟨rfl, ⟨_, HST.out.1⟩, HST.out.2⟩
end Go.Proofs.Ytebgmphbkjpfcaa
