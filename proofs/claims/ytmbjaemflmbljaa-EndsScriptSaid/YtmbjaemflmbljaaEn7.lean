/- package ends, over tables of any number of rows: Remove, Drop. -/
import Derived.Test.YtmbjaemflmbljaaEn6
import Derived.Test.YtmbjaemflmbljaaEnD
namespace Go.Proofs.Ytmbjaemflmbljaa
set_option linter.unusedVariables false
set_option linter.unusedSimpArgs false
open Go.ChangeShapes Go.WideShapes Go.ChangeAt Go.RowKit Go.Shelf
open TabE

set_option maxRecDepth 100000 in
set_option maxHeartbeats 1000000 in
theorem remove_no (w : World) (b base : Nat) (tv : Value) (L : List En) (t : Int) (h : EndsAt w b base tv L) (hl : L.length < 1000000) (hm : ∀ x ∈ L, x.l.length ≤ 1000000) (hn : ∀ x ∈ L, t ∉ x.l) :
    Calls Try.prog 18 #[.pointer (some ⟨b, 0, none⟩), .int .i64 t] w fun e w' => e = .returned (.bool false) ∧ Below w.heap.size w w' := by
  have HF := Lib.hid (find_no w b base tv L t h hl hm hn)
  clear h hl hm hn
  go_enter Try.func18, Try.ntmps18
  go_wp2_with (go_at_call 29; refine HF.out.mono ?_; rintro e w1 ⟨rfl, hb1⟩)
  go_ret
  exact ⟨rfl, hb1⟩
set_option maxRecDepth 100000 in
set_option maxHeartbeats 2000000 in
theorem remove_yes (w : World) (b base : Nat) (tv : Value) (L : List En) (t : Int) (p j : Nat) (x : En) (h : EndsAt w b base tv L) (hl : L.length < 1000000) (hm : ∀ x ∈ L, x.l.length ≤ 1000000) (hf : FindAt L t p x j) :
    Calls Try.prog 18 #[.pointer (some ⟨b, 0, none⟩), .int .i64 t] w fun e w' => e = .returned (.bool true) ∧ ∃ v', EndsAt w' b base tv (L.set p { x with l := x.l.take j ++ x.l.drop (j + 1), v := v' }) ∧ EOnly w w' b tv tv L (L.set p { x with l := x.l.take j ++ x.l.drop (j + 1), v := v' }) := by
  obtain ⟨g, c, rfl, hgl, hgb, hga, c1, c2, cf⟩ := h.vform hf.1
  have HF := Lib.hid (find_at w b base _ L t p j x h hl hm hf)
  have hxm := List.mem_of_getElem? hf.1
  have hxo := h.own x hxm
  have hjl := (List.getElem?_eq_some_iff.1 hf.2.1.1).1
  have hsplit : x.l = x.l.take j ++ t :: x.l.drop (j + 1) := by
    have e := hf.2.1.1
    rw [List.getElem?_eq_getElem hjl] at e
    injection e with e
    have := List.drop_eq_getElem_cons hjl
    rw [e] at this
    rw [← this, List.take_append_drop]
  obtain ⟨gx, cx, hv⟩ : ∃ gx cx, x.v = .slice (some ⟨gx, 0, none⟩) x.l.length cx := by
    rcases own_form hxo with ⟨_, e⟩ | ⟨gx, cx, e, _⟩
    · rw [e] at hjl; simp at hjl
    · exact ⟨gx, cx, e⟩
  have hvg : gx ≠ g := fun e => h.nt x hxm gx (by rw [hv]; rfl) (by rw [e]; rfl)
  have hjz : (j : Int) < 1000000 := by have := hm x hxm; omega
  have hlt : (x.l.take j).length = j := by rw [List.length_take]; omega
  have H := Lib.hid h
  have HX := Lib.hid hf.1
  have HS := Lib.hid hsplit
  have HLT := Lib.hid hlt
  have hj0 : (0 : Int) ≤ (j : Int) := by omega
  rw [hv] at c1 hxo
  have HXO : Hid (∀ w2, Below w.heap.size w w2 → w2.ownsRow base 3 1 (.slice (some ⟨gx, 0, none⟩) x.l.length cx) x.l.length (x.l.map (Value.int .i64))) := Lib.hid (fun w2 hb => by
    have := (h.call hb).own x hxm
    rw [hv] at this
    exact this)
  have HV := Lib.hid hv
  have HVG := Lib.hid hvg
  generalize hn : x.l.length = n at *
  have HN := Lib.hid hn
  generalize hl1 : x.l.take j = l1 at *
  generalize hl2 : x.l.drop (j + 1) = l2 at *
  clear h hf hm hl hsplit hv hxo hvg hjl hxm hn hl1 hl2 hlt
  go_enter Try.func18, Try.ntmps18
  go_upto_region 3 with (go_at_call 29; refine HF.out.mono ?_; simp only [Value.ownBlock, Option.map_some]; rintro e w1 ⟨rfl, hb1⟩; have HB := Lib.hid hb1; have d1 := (hb1.cell (p := ⟨g, p * 3 + 1, none⟩) hgl).trans c1; have f1 := (hb1.frozen (p := ⟨g, p * 3 + 1, none⟩) hgl).trans (cf _); clear hb1)
  have hgl2 : g < w1.heap.size := Nat.lt_of_lt_of_le hgl HB.out.size
  go_upto_region 4 with (go_at_call 31; refine (delete_row w1 base gx cx n _ _ x.l l1 l2 t HS.out HN.out.symm (by first | rw [HLT.out] | skip) (by first | rw [HLT.out] | skip) (by rw [HN.out]; exact HXO.out w1 HB.out)).mono ?_; rintro e w2 ⟨rfl, ho2, hg2⟩; have HO2 := Lib.hid ho2; have HG2 := Lib.hid hg2; have e3 : w2.heap[g]? = w1.heap[g]? := hg2.block g hgl2 (fun e => HVG.out (by injection e with e; exact e.symm)); have d3 := (World.cell?_of_block (a := ⟨g, p * 3 + 1, none⟩) e3).trans d1; have f3 := (World.frozen?_of_block (a := ⟨g, p * 3 + 1, none⟩) e3).trans f1; clear ho2 hg2 e3 d1 f1)
  go_wp2
  go_ret
  have h1 := (H.out.call HB.out).turn (v' := .slice (some ⟨gx, 0, none⟩) (l1.length + l2.length) cx) HX.out (by rw [HV.out]; exact HG2.out) (by rw [← List.length_append]; exact HO2.out) (.inl (by rw [HV.out]; rfl))
  exact ⟨rfl, _, h1.1, (EOnly.of_below HB.out).trans h1.2⟩
set_option maxRecDepth 100000 in
set_option maxHeartbeats 1000000 in
theorem edrop_any (w : World) (b base : Nat) (tv : Value) (L : List En) (id : Int) (h : EndsAt w b base tv L) (hm : ∀ x ∈ L, x.l.length ≤ 1000000) :
    Calls Try.prog 12 #[.pointer (some ⟨b, 0, none⟩), .int .i64 id] w fun e w' => ∃ r tv', e = .returned (.tuple #[r, .int .i64 (if hasN L id then 0 else 2)]) ∧ w'.ownsRow w.heap.size 3 1 r (listN L id).1.length ((listN L id).1.map (Value.int .i64)) ∧ EndsAt w' b base tv' (if hasN L id then delN L id else L) ∧ EOnly w w' b tv tv' L (if hasN L id then delN L id else L) ∧ ∀ k, r.ownBlock = some k → tv'.ownBlock ≠ some k ∧ ∀ x ∈ (if hasN L id then delN L id else L), x.v.ownBlock ≠ some k := by
  have HL := Lib.hid (elist_any w b base tv L id h hm)
  have H := Lib.hid h
  cases hh : hasN L id with
  | false =>
    have hlist : listN L id = ([], false) := by unfold listN getN; rw [hh]; rfl
    have HLI := Lib.hid hlist
    have HH := Lib.hid (show hasR (rowsN L) id = false from hh)
    clear h hm hh hlist
    simp only [Bool.false_eq_true, if_false]
    go_enter Try.func12, Try.ntmps12
    go_wp2_with (first
      | (go_at_call 22; refine HL.out.mono ?_; rintro e w1 ⟨r, rfl, hr, hb1⟩; have HR := Lib.hid hr; have HB := Lib.hid hb1; obtain ⟨a, c, rfl⟩ : ∃ a c, r = .slice a (listN L id).1.length c := own_len hr; clear hr hb1)
      | (go_at_call 27; refine (drop_no _ b 0 base tv (rowsN L) id (H.out.call HB.out).tab HH.out).mono ?_; rintro e w2 ⟨rfl, hb2⟩))
    go_ret2
    have hb := HB.out.trans (hb2.mono HB.out.size)
    refine ⟨_, tv, rfl, ?_, H.out.call hb, .of_below hb, fun k e => by cases e⟩
    rw [HLI.out]
    exact World.ownsRow_nil _ _ _ _
  | true =>
    have HH := Lib.hid (show hasR (rowsN L) id = true from hh)
    clear h hm hh
    simp only [if_true]
    go_enter Try.func12, Try.ntmps12
    go_wp2_with (first
      | (go_at_call 22; refine HL.out.mono ?_; rintro e w1 ⟨r, rfl, hr, hb1⟩; have HR := Lib.hid hr; have HB := Lib.hid hb1; obtain ⟨a, c, rfl⟩ : ∃ a c, r = .slice a (listN L id).1.length c := own_len hr; clear hr hb1)
      | (go_at_call 27; refine (drop_yes _ b 0 base tv (rowsN L) id (H.out.call HB.out).tab HH.out).mono ?_; rintro e w2 ⟨rfl, tv', hT, hO⟩; have HT := Lib.hid hT; have HO := Lib.hid hO; clear hT hO))
    go_ret2
    have hT := HT.out
    rw [← rowsN_del] at hT
    obtain ⟨q1, q2⟩ := (H.out.call HB.out).table hT HO.out (fun x hx => .inl ((sub_delN L id).subset hx)) (H.out.ap.sublist (sub_delN L id))
    refine ⟨_, tv', rfl, ?_, q1, (EOnly.of_below HB.out).trans q2, fun k e => ⟨fun e2 => ?_, fun x hx e2 => ?_⟩⟩
    rotate_left
    · have h1 := HR.out.lt k e
      rcases HO.out.foot with q | ⟨g, q, hg⟩
      · rw [q] at e2; have := (H.out.tab.own e2).2; omega
      · rw [q] at e2; cases e2; omega
    · have h1 := HR.out.lt k e
      have := ((H.out.own x ((sub_delN L id).subset hx)).lt k e2).2
      omega
    refine row_of_block HR.out (fun k hk => HO.out.block k (HR.out.lt k hk).2 (fun e => ?_) (fun e => ?_))
    · have := H.out.lt; have := (HR.out.lt k hk).1; omega
    · have h2 := (H.out.tab.own e).2; have h3 := (HR.out.lt k hk).1; omega
end Go.Proofs.Ytmbjaemflmbljaa
