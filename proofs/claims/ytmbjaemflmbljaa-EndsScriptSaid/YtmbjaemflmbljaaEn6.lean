/- package ends, over tables of any number of rows: Wait. -/
import Derived.Test.YtmbjaemflmbljaaEn5
import Derived.Maps.AppendAt
namespace Go.Proofs.Ytmbjaemflmbljaa
set_option linter.unusedVariables false
set_option linter.unusedSimpArgs false
open Go.ChangeShapes Go.WideShapes Go.ChangeAt Go.RowKit Go.Shelf
open TabE

theorem one_at (w : World) (v : Value) (t : TypeId) : ∀ j u, ([v] : List Value)[j]? = some u → (w.alloc (.cells #[v] t)).cell? ((⟨w.heap.size, 0, none⟩ : Addr).add j) = some u := by
  intro j u hj
  rw [show ((⟨w.heap.size, 0, none⟩ : Addr).add j) = ⟨w.heap.size, j, none⟩ by unfold Addr.add; split <;> simp_all]
  exact (cell_cur (cur := [v]) (heap_alloc_new w (.cells #[v] t)) j).trans hj
set_option maxRecDepth 100000 in
set_option maxHeartbeats 1000000 in
theorem wait_arg (w : World) (b base : Nat) (tv : Value) (L : List En) (id t : Int) (s : Bool) (h : EndsAt w b base tv L) (hc : hasN L id = false ∨ t < 1) :
    Calls Try.prog 16 #[.pointer (some ⟨b, 0, none⟩), .int .i64 id, .int .i64 t, .bool s] w fun e w' => e = .returned (.int .i64 2) ∧ Below w.heap.size w w' := by
  have H := Lib.hid h
  rcases getN_has h.tab.asc id with ⟨hg, hh⟩ | ⟨x, hg, hh, hx, hid⟩
  · have HH := Lib.hid hh
    clear h hh hg hc
    go_enter Try.func16, Try.ntmps16
    go_wp2_with (go_at_call 28; refine (tabget_no _ b base tv L id H.out HH.out).mono ?_; rintro e w1 ⟨rfl, hb1⟩)
    go_ret
    exact ⟨rfl, hb1⟩
  · have ht : t < 1 := by rcases hc with q | q; (rw [hh] at q; cases q); exact q
    obtain ⟨g, c, rfl, _⟩ := h.vform hx
    have HH := Lib.hid hh
    clear h hh hg hc hx
    go_enter Try.func16, Try.ntmps16
    go_wp2_with (go_at_call 28; refine (tabget_yes _ b base g c L id H.out HH.out).mono ?_; rintro e w1 ⟨rfl, hb1⟩)
    go_ret
    exact ⟨rfl, hb1⟩
set_option maxRecDepth 100000 in
set_option maxHeartbeats 1000000 in
theorem wait_held (w : World) (b base : Nat) (tv : Value) (L : List En) (id t : Int) (s : Bool) (i j : Nat) (y : En) (h : EndsAt w b base tv L) (hl : L.length < 1000000) (hm : ∀ x ∈ L, x.l.length ≤ 1000000) (hh : hasN L id = true) (ht : ¬ t < 1) (hf : FindAt L t i y j) :
    Calls Try.prog 16 #[.pointer (some ⟨b, 0, none⟩), .int .i64 id, .int .i64 t, .bool s] w fun e w' => e = .returned (.int .i64 16) ∧ Below w.heap.size w w' := by
  have H := Lib.hid h
  obtain ⟨g, c, rfl, _⟩ := h.vform hf.1
  have HH := Lib.hid hh
  have HF := Lib.hid hf
  have HM := Lib.hid hm
  have HL := Lib.hid hl
  clear h hh hf hm hl
  go_enter Try.func16, Try.ntmps16
  go_wp2_with (first
    | (go_at_call 28; refine (tabget_yes _ b base g c L id H.out HH.out).mono ?_; rintro e w1 ⟨rfl, hb1⟩)
    | (go_at_call 29; refine (find_at _ b base _ L t i j y (H.out.call hb1) HL.out HM.out HF.out).mono ?_; rintro e w2 ⟨rfl, hb2⟩))
  go_ret
  exact ⟨rfl, hb1.trans (hb2.mono hb1.size)⟩
set_option maxRecDepth 100000 in
set_option maxHeartbeats 1000000 in
theorem wait_busy (w : World) (b base : Nat) (tv : Value) (L : List En) (id t : Int) (s : Bool) (x : En) (h : EndsAt w b base tv L) (hl : L.length < 1000000) (hm : ∀ x ∈ L, x.l.length ≤ 1000000) (hg : getN L id = some x) (ht : ¬ t < 1) (hn : ∀ x ∈ L, t ∉ x.l) (h0 : x.l ≠ []) (hs : x.s ≠ s) :
    Calls Try.prog 16 #[.pointer (some ⟨b, 0, none⟩), .int .i64 id, .int .i64 t, .bool s] w fun e w' => e = .returned (.int .i64 16) ∧ Below w.heap.size w w' := by
  have H := Lib.hid h
  rcases getN_has h.tab.asc id with ⟨hg', _⟩ | ⟨x', hg', hh, hx, hid⟩
  · rw [hg] at hg'; cases hg'
  rw [hg] at hg'
  cases hg'
  obtain ⟨g, c, rfl, hgl, _, _, c1, c2, _⟩ := h.vform hx
  obtain ⟨a, cx, hv⟩ : ∃ gx cx, x.v = .slice (some ⟨gx, 0, none⟩) x.l.length cx := by
    rcases own_form (h.own x (List.mem_of_getElem? hx)) with ⟨_, e⟩ | ⟨gx, cx, e, _⟩
    · exact absurd e h0
    · exact ⟨gx, cx, e⟩
  rw [hv] at c1
  have hlen : ¬ (x.l.length : Int) ≤ 0 := by have := List.length_pos_iff.2 h0; omega
  have hlen2 : (0 : Int) < (x.l.length : Int) := by omega
  have hlen3 : 0 < x.l.length := by omega
  generalize x.l.length = n at *
  generalize x.s = xs at *
  have HH := Lib.hid hh
  have HN := Lib.hid hn
  have HM := Lib.hid hm
  have HL := Lib.hid hl
  obtain rfl : xs = !s := by cases xs <;> cases s <;> simp_all
  clear h hh hg hn hx hm hl hs h0 hv
  generalize hp : posN L id = p at *
  have HP := Lib.hid hp
  clear hp
  cases s
  all_goals
   simp only [Bool.not_false, Bool.not_true] at c2
   go_enter Try.func16, Try.ntmps16
   go_wp2_with (first
    | (go_at_call 28; refine (tabget_yes _ b base g c L id H.out HH.out).mono ?_; rw [HP.out]; rintro e w1 ⟨rfl, hb1⟩)
    | (go_at_call 29; refine (find_no _ b base _ L t (H.out.call hb1) HL.out HM.out HN.out).mono ?_; rintro e w2 ⟨rfl, hb2⟩; have hb3 := hb1.trans (hb2.mono hb1.size); have d1 := (hb3.cell (p := ⟨g, p * 3 + 1, none⟩) hgl).trans c1; have d2 := (hb3.cell (p := ⟨g, p * 3 + 2, none⟩) hgl).trans c2))
   go_ret
   exact ⟨rfl, hb3⟩
set_option maxRecDepth 100000 in
set_option maxHeartbeats 2000000 in
theorem wait_in (w : World) (b base : Nat) (tv : Value) (L : List En) (id t : Int) (s : Bool) (p : Nat) (x : En) (h : EndsAt w b base tv L) (hl : L.length < 1000000) (hm : ∀ x ∈ L, x.l.length < 1000000) (hx : L[p]? = some x) (hid : x.id = id) (ht : ¬ t < 1) (hn : ∀ x ∈ L, t ∉ x.l) (hs : x.l = [] ∨ x.s = s) :
    Calls Try.prog 16 #[.pointer (some ⟨b, 0, none⟩), .int .i64 id, .int .i64 t, .bool s] w fun e w' => e = .returned (.int .i64 0) ∧ ∃ v', EndsAt w' b base tv (L.set p { id := x.id, l := x.l ++ [t], s := s, v := v' }) ∧ EOnly w w' b tv tv L (L.set p { id := x.id, l := x.l ++ [t], s := s, v := v' }) := by
  obtain ⟨i0, hi, hz0, hz1, hz2⟩ := info_parts infoI
  have HI := Lib.hid hi
  clear hi
  have hxm := List.mem_of_getElem? hx
  have hml := hm x hxm
  have hm2 : ∀ x ∈ L, x.l.length ≤ 1000000 := fun x hx => by have := hm x hx; omega
  have hpos : hasN L id = true ∧ posN L id = p := by
    rcases getN_has h.tab.asc id with ⟨_, q⟩ | ⟨z, _, q, hz, hzi⟩
    · exfalso
      have : hasR (rowsN L) id = true := by
        unfold hasR
        rw [List.any_eq_true]
        exact ⟨rowN x, List.mem_map.2 ⟨x, hxm, rfl⟩, decide_eq_true hid⟩
      rw [show hasR (rowsN L) id = false from q] at this
      cases this
    · refine ⟨q, ?_⟩
      rcases Nat.lt_trichotomy (posN L id) p with r | r | r
      · have := h.tab.asc.at r (x := rowN z) (y := rowN x) (by rw [rowsN_get, hz]; rfl) (by rw [rowsN_get, hx]; rfl)
        change z.id < x.id at this
        omega
      · exact r
      · have := h.tab.asc.at r (x := rowN x) (y := rowN z) (by rw [rowsN_get, hx]; rfl) (by rw [rowsN_get, hz]; rfl)
        change x.id < z.id at this
        omega
  obtain ⟨g, c, rfl, hgl, hgb, hga, c1, c2, cf⟩ := h.vform hx
  have hxo := h.own x hxm
  have hform : (x.v = .slice none 0 0 ∧ x.l.length = 0) ∨ ∃ gx cx, x.v = .slice (some ⟨gx, 0, none⟩) x.l.length cx := by
    rcases own_form hxo with ⟨e, e2⟩ | ⟨gx, cx, e, _⟩
    · exact .inl ⟨e, by rw [e2]; rfl⟩
    · exact .inr ⟨gx, cx, e⟩
  have hbase := h.tab.base
  have hdec : ¬ 0 < x.l.length ∨ x.s = s := by
    rcases hs with q | q
    · left; rw [q]; simp
    · right; exact q
  have HH := Lib.hid hpos.1
  have HP := Lib.hid hpos.2
  have HN := Lib.hid hn
  have HM := Lib.hid hm2
  have HL := Lib.hid hl
  have H := Lib.hid h
  have HX := Lib.hid hx
  have HXO := Lib.hid hxo
  have HVG : Hid (x.v.ownBlock ≠ some g) := Lib.hid (fun e => h.nt x hxm g e rfl)
  obtain ⟨xid, xl, xs, xv⟩ := x
  simp only [] at hid hml c1 c2 hform hdec
  have HXI := Lib.hid hid
  clear h hpos hn hm hm2 hl hx hxo hs hid hxm
  have hlen : Hid (xl.length < 1000000) := Lib.hid hml
  have hnn : ∃ n, n = xl.length := ⟨_, rfl⟩
  obtain ⟨n, hn⟩ := hnn
  rw [← hn] at hml hdec hform
  have HNN := Lib.hid hn
  clear hn
  have hcases : (¬ (0 : Int) < (n : Int)) ∨ ((0 : Int) < (n : Int) ∧ s = xs) := by
    rcases hdec with q | q
    · left; omega
    · by_cases r : 0 < n
      · right; exact ⟨by omega, q.symm⟩
      · left; omega
  clear hdec
  have hways : ∃ a cx, xv = .slice a n cx ∧ ((a = none ∧ cx = 0 ∧ n = 0) ∨ ∃ gx, a = some ⟨gx, 0, none⟩) := by
    rcases hform with ⟨e, e0⟩ | ⟨gx, cx, e⟩
    · exact ⟨none, 0, by rw [e, e0], .inl ⟨rfl, rfl, e0⟩⟩
    · exact ⟨_, cx, e, .inr ⟨gx, rfl⟩⟩
  obtain ⟨a, cx, hv, hw⟩ := hways
  have HV := Lib.hid hv
  rw [hv] at c1
  clear hv hform
  have HXW : Hid (∀ w2, Below w.heap.size w w2 → w2.ownsRow base 3 1 (.slice a n cx) n (xl.map (Value.int .i64))) := Lib.hid (fun w2 hb => by
    have := (H.out.call hb).own _ (List.mem_of_getElem? HX.out)
    simp only [] at this
    rw [HV.out, ← HNN.out] at this
    exact this)
  have HVS : Hid ((Value.slice a n cx).ownBlock ≠ some g) := Lib.hid (by rw [← HV.out]; exact HVG.out)
  rcases hcases with hn0 | ⟨hn0, rfl⟩ <;> rcases hw with ⟨rfl, rfl, rfl⟩ | ⟨gx, rfl⟩
  all_goals try (exfalso; simp at hn0; done)
  all_goals
    go_enter Try.func16, Try.ntmps16
    go_upto_region 9 with (first
      | (go_at_call 28; refine (tabget_yes _ b base g c L id H.out HH.out).mono ?_; rw [HP.out]; rintro e w1 ⟨rfl, hb1⟩)
      | (go_at_call 29; refine (find_no _ b base _ L t (H.out.call hb1) HL.out HM.out HN.out).mono ?_; rintro e w2 ⟨rfl, hb2⟩; have HB3 := Lib.hid (hb1.trans (hb2.mono hb1.size)); have d1 := (HB3.out.cell (p := ⟨g, p * 3 + 1, none⟩) hgl).trans c1; have d2 := (HB3.out.cell (p := ⟨g, p * 3 + 2, none⟩) hgl).trans c2; have f1 := (HB3.out.frozen (p := ⟨g, p * 3 + 1, none⟩) hgl).trans (cf _); have f2 := (HB3.out.frozen (p := ⟨g, p * 3 + 2, none⟩) hgl).trans (cf _); clear hb1 hb2))
    have H2 := Lib.hid (H.out.call HB3.out)
    have hb2 : base ≤ w2.heap.size := by have := HB3.out.size; omega
    have hgl2 : g < w2.heap.size := Nat.lt_of_lt_of_le hgl HB3.out.size
    go_upto_region 10 with (at_builtin; refine wpList_append_own_at _ rfl _ _ 36 rfl base 3 i0 (.int .i64 0) 1 8 Try.underlying36 HI.out hz0 hz1 hz2 rfl (by decide) _ _ _ rfl ((HXW.out w2 HB3.out).alloc _) ⟨w2.heap.size, 0, none⟩ 1 1 [.int .i64 t] rfl rfl (one_at w2 _ _) (by simp [Value.oneCell']) (by unfold maxLen; omega) (by omega) (by simp; omega) ?_; intro v' w3 hown' hgrow _ hat; have HOW := Lib.hid hown'; have HGR := Lib.hid hgrow; have HAT := Lib.hid hat; have e3 : w3.heap[g]? = w2.heap[g]? := (hgrow.block g (by simp; omega) (fun e => HVS.out e.symm)).trans (Below.heap_alloc _ _ _ hgl2); have d3 := (World.cell?_of_block (a := ⟨g, p * 3 + 1, none⟩) e3).trans d1; have f3 := (World.frozen?_of_block (a := ⟨g, p * 3 + 1, none⟩) e3).trans f1; have d4 := (World.cell?_of_block (a := ⟨g, p * 3 + 2, none⟩) e3).trans d2; have f4 := (World.frozen?_of_block (a := ⟨g, p * 3 + 2, none⟩) e3).trans f2; have hov : v'.oneCell' = true := (by rcases hown'.2 with ⟨e, _⟩ | ⟨_, _, _, e, _⟩ <;> rw [e] <;> rfl); clear hown' hgrow hat e3 d1 d2 f1 f2; obtain ⟨va, vn, vc, rfl⟩ : ∃ va vn vc, v' = .slice va vn vc := (by rcases HOW.out.2 with ⟨e, _⟩ | ⟨_, _, _, e, _⟩ <;> exact ⟨_, _, _, e⟩))
    go_wp2
    go_ret
    have how : w3.ownsRow base 3 1 (.slice va vn vc) (xl ++ [t]).length ((xl ++ [t]).map (Value.int .i64)) := by
      have := HOW.out
      rw [List.map_append, List.length_append, ← HNN.out]
      exact this
    have hgr : w2.grownBy w3 xv.ownBlock := by
      rw [HV.out]
      exact grown_trans (World.grownBy_alloc w2 _ _) HGR.out
    have hat2 : (Value.slice va vn vc).ownBlock = xv.ownBlock ∨ ∀ k, (Value.slice va vn vc).ownBlock = some k → w2.heap.size ≤ k := by
      rw [HV.out]
      rcases HAT.out with q | q
      · exact .inl q
      · right; intro k e; rw [q] at e; cases e; simp
    have h1 := H2.out.turn HX.out hgr how hat2
    have hpl := (List.getElem?_eq_some_iff.1 HX.out).1
    have h2 := EndsAt.turnS s (p := p) (x := ⟨_, xl ++ [t], _, .slice va vn vc⟩) (L := L.set p ⟨_, xl ++ [t], _, .slice va vn vc⟩) (by rw [List.length_set]; exact h1.1) (List.getElem?_set_self hpl)
    rw [List.set_set, List.length_set] at h2
    exact ⟨rfl, .slice va vn vc, h2.1, ((EOnly.of_below HB3.out).trans h1.2).trans h2.2⟩
end Go.Proofs.Ytmbjaemflmbljaa
