import Derived.Test.YtchjfeafkmpmbaaGreatDoorQkq
namespace Go.Proofs.YtchjfeafkmpmbaaGreatDoor
set_option linter.unusedVariables false
set_option linter.unusedSimpArgs false
set_option maxRecDepth 100000
set_option maxHeartbeats 8000000
open Lib (hid)
open Go.ChangeShapes Go.WideShapes Go.ChangeAt Go.RowKit Go.Shelf
section
namespace HdS
open TabS (Cp Sn zC mayC sizS getR getN Two Pr FootP foot_ltP foot_ltR SameS AddRel addSR setN setM rowsS hasS dropSR dropSL heldA hdsC)
variable {W w w' : World} {s : Sh} {hb rhb n n' : Nat} {L M L' M' : List Sn} {l l2 l' l2' : List Nod} {S : Nat → Prop}
theorem hused (h : Hd W s hb rhb n L M l l2 S w) (hl : L.length < 1000000) :
  Calls Tryz.prog 13 #[.pointer (some ⟨hb, 0, none⟩)] w fun e w' => ∃ r, e = .returned r ∧ w'.ownsRow w.heap.size 46 10 r (heldA L).length (hdsC (heldA L)) ∧ Below w.heap.size w w' := by
 have HS := hid (hslots h)
 have HC := hid (h.bo.used hl)
 generalize heldA L = H at *
 clear h hl
 go_enter Tryz.func13, Tryz.ntmps13
 go_wp2_with (first
  | (go_at_call 51; (with_reducible refine HS.out.mono ?_); rintro e w2 ⟨rfl, rfl⟩)
  | (go_at_call 52; (with_reducible refine HC.out.mono ?_); rintro e w3 ⟨r, rfl, h1, h2⟩; have HR := hid h1; have HB := hid h2; clear h1 h2))
 go_ret
 exact ⟨_, rfl, HR.out, HB.out⟩
theorem htree (h : Hd W s hb rhb n L M l l2 S w) (hn : n < 1000000) :
  Calls Tryz.prog 14 #[.pointer (some ⟨hb, 0, none⟩)] w fun e w' => ∃ v, e = .returned v ∧ w'.ownsRow w.heap.size 44 3 v l.length (nodsC l) ∧ Below w.heap.size w w' := by
 have HC := hid (h.bo.all hn)
 obtain ⟨-, c1, c2⟩ := h.c
 clear h hn
 go_enter Tryz.func14, Tryz.ntmps14
 go_wp2_with (go_at_call 56; (with_reducible refine HC.out.mono ?_); rintro e w3 ⟨r, rfl, h1, h2⟩; have HR := hid h1; have HB := hid h2; clear h1 h2)
 go_ret
 exact ⟨_, rfl, HR.out, HB.out⟩
theorem hunder (h : Hd W s hb rhb n L M l l2 S w) (o i : Int) (ho : InS o) (hi : InS i) (hn : n < 1000000) :
  Calls Tryz.prog 21 #[.pointer (some ⟨hb, 0, none⟩), slV o i] w fun e w' => ∃ v, e = .returned v ∧ w'.ownsRow w.heap.size 30 2 v (belowA l o i).length (slsC (belowA l o i)) ∧ Below w.heap.size w w' := by
 have hb1 : Below w.heap.size w (w.alloc (slO o i)) := bal (Below.refl _ _) _
 obtain ⟨w1, hw1⟩ : ∃ y, y = w.alloc (slO o i) := ⟨_, rfl⟩
 have hs1 : w1.heap[w.heap.size]? = some (.cells #[.int .i64 o, .int .i64 i] 30 (0, 0)) := by rw [hw1]; exact heap_alloc_new w _
 rw [← hw1] at hb1
 have H1 := hid (h.call hb1)
 have HB1 := hid hb1
 have H1d := hid (H1.out.call (show Below w1.heap.size w1 w1.drew from (Below.refl _ _).drew))
 have HC := hid (H1d.out.bo.under o i ho hi hn)
 have HA : Hid (w1.cell? ⟨hb, 1, none⟩ = some (.pointer (some ⟨s.tb, 0, none⟩)) ∧ w1.cell? ⟨w.heap.size, 0, none⟩ = some (.int .i64 o) ∧ w1.cell? ⟨w.heap.size, 1, none⟩ = some (.int .i64 i)) := hid ⟨H1.out.c.2.1, (slot_cells hs1).1, (slot_cells hs1).2⟩
 have HD : Hid (w1.drew.cell? ⟨hb, 1, none⟩ = some (.pointer (some ⟨s.tb, 0, none⟩)) ∧ w1.drew.cell? ⟨w.heap.size, 0, none⟩ = some (.int .i64 o) ∧ w1.drew.cell? ⟨w.heap.size, 1, none⟩ = some (.int .i64 i)) := hid HA.out
 have HS1 := hid hs1
 have HW := hid hw1
 have hz := h.below.size
 clear h hb1 hs1 hw1 ho hi hn hz
 go_enter Tryz.func21, Tryz.ntmps21
 go_upto_region 3 with fail
 rw [show (w.alloc (slO o i)) = w1 from HW.out.symm]
 go_region_held3 (fun w' => w'.cell? ⟨hb, 1, none⟩ = some (.pointer (some ⟨s.tb, 0, none⟩)) ∧ w'.cell? ⟨w.heap.size, 0, none⟩ = some (.int .i64 o) ∧ w'.cell? ⟨w.heap.size, 1, none⟩ = some (.int .i64 i))
  (first | (with_reducible exact HA.out) | (with_reducible exact HD.out) | (with_reducible exact HF.out))
  (first | (go_at_call 67; (with_reducible refine HC.out.mono ?_); rintro e w3 ⟨v, rfl, h1, h2⟩; have HR := hid h1; have HB : Hid (Below w1.heap.size w1 w3) := hid ((show Below w1.heap.size w1 w1.drew from (Below.refl _ _).drew).trans h2); have hs3 := (HB.out.block _ (ags HS1.out).1).trans HS1.out; have HF : Hid (w3.cell? ⟨hb, 1, none⟩ = some (.pointer (some ⟨s.tb, 0, none⟩)) ∧ w3.cell? ⟨w.heap.size, 0, none⟩ = some (.int .i64 o) ∧ w3.cell? ⟨w.heap.size, 1, none⟩ = some (.int .i64 i)) := hid ⟨(H1.out.call HB.out).c.2.1, (slot_cells hs3).1, (slot_cells hs3).2⟩; clear h1 h2 hs3))
 all_goals
  go_wp2
  go_ret
  exact ⟨_, rfl, own_base HR.out (show w.heap.size ≤ w1.drew.heap.size from HB1.out.size), HB1.out.trans (HB.out.mono HB1.out.size)⟩
theorem full_iff {L : List Sn} {o i : Int} : fullN L o i = 0 ↔ (gt L o i).a ≠ 0 := by
 constructor
 ·exact fun h => (fullN_zero h).2
 ·intro q
  unfold fullN
  rw [if_neg (fun e => q e.2)]
  exact gn_of q
theorem gt_same {L M : List Sn} (h : SameS L M) (o i : Int) : gt M o i = gt L o i := by unfold gt; rw [TabS.getR_same h]
theorem gn_same {L M : List Sn} (h : SameS L M) (o i : Int) : gn M o i = gn L o i := by unfold gn; rw [TabS.getR_same h]
theorem fin_same {L M : List Sn} (h : SameS L M) (o i : Int) : rfinB M o i = finB L o i := by
 unfold rfinB finB
 rw [← h.held, gt_same h, Bool.eq_iff_iff]
 simp [full_iff]
theorem held_gt {L : List Sn} (hA : Asc (rowsS L)) {k : Nat} (hk : k < (heldA L).length) : gt L (TabS.hdAt (heldA L) k).n ((TabS.hdAt (heldA L) k).i : Int) = (TabS.hdAt (heldA L) k).c ∧ (TabS.hdAt (heldA L) k).c.a ≠ 0 := by
 have hat : TabS.hdAt (heldA L) k = (heldA L)[k] := by unfold TabS.hdAt; rw [List.getElem?_eq_getElem hk]; rfl
 rw [hat]
 have hm := List.getElem_mem hk
 generalize (heldA L)[k] = x at *
 obtain ⟨y, hy, hx⟩ := List.mem_flatMap.1 hm
 obtain ⟨h1, j, h2, h3⟩ := TabS.mem_heldL hx
 refine ⟨?_, held_a hx⟩
 unfold gt
 rw [(getR_mem hA).2 ⟨y, hy, h1.symm, by omega, by rw [h2]; simpa using h3⟩]
 rfl
where
 held_a {id : Int} : ∀ {l : List Cp} {o : Nat} {h : TabS.Hd}, h ∈ TabS.heldL id o l → h.c.a ≠ 0
  | [], _, _, hm => by cases hm
  | d :: l, o, h, hm => by
   unfold TabS.heldL at hm
   by_cases hd : d.a = 0
   ·rw [if_pos hd] at hm
    exact held_a hm
   ·rw [if_neg hd] at hm
    rcases List.mem_cons.1 hm with rfl | q
    ·exact hd
    ·exact held_a q
theorem Inv.he {L : List Sn} {l : List Nod} (h : Inv L l) (k : Nat) : (TabS.hdAt (heldA L) k).c.e ≤ 9223372036854775807 := by
 by_cases hk : k < (heldA L).length
 ·rw [← (held_gt h.asc hk).1]
  exact h.e _ _
 ·unfold TabS.hdAt
  rw [List.getElem?_eq_none (by omega)]
  decide
end HdS
end
section
namespace HdS
open TabS (Cp Sn zC mayC sizS getR getN Two Pr FootP foot_ltP foot_ltR SameS AddRel addSR setN setM rowsS hasS dropSR dropSL heldA hdsC)
variable {W w w' : World} {s : Sh} {hb rhb n n' t : Nat} {L M L' M' : List Sn} {l l2 l' l2' : List Nod} {S T : Nat → Prop}
theorem Hd.once (h : Hd W s hb rhb n L M l l2 S w) : Once l := by
 obtain ⟨ps, f, u, hb⟩ := h.bo
 exact hb.tr.slots
theorem Hd.lens (h : Hd W s hb rhb n L M l l2 S w) : l.length ≤ n ∧ (∀ x ∈ l, x.d ≤ n ∧ InS x.o ∧ InS x.i) := by
 obtain ⟨ps, f, u, hb⟩ := h.bo
 refine ⟨hb.tr.le, fun x hx => ?_⟩
 obtain ⟨k, hk⟩ := List.getElem?_of_mem hx
 obtain ⟨h1, h2, h3, h4⟩ := hb.tr.ins k x hk
 exact ⟨h4, h1, h2⟩
theorem Hd.asc (h : Hd W s hb rhb n L M l l2 S w) : Asc (rowsS L) := by
 obtain ⟨ps, f, u, hb⟩ := h.bo
 exact hb.pr.asc
theorem Hd.room (h : Hd W s hb rhb n L M l l2 S w) : ∀ x ∈ L, x.l.length ≤ 16 := by
 obtain ⟨ps, f, u, hb⟩ := h.bo
 obtain ⟨base, tv, rbase, v, hT⟩ := hb.pr
 exact hT.pk.bd
def HSt (W : World) (s : Sh) (hb rhb t : Nat) (S : Nat → Prop) (w : World) : Prop := ∃ L M l, Hd W s hb rhb (2 * t) L M l l S w ∧ Inv L l ∧ SameS L M ∧ L.length ≤ t + 3
theorem HSt.call (h : HSt W s hb rhb t S w) (hB : Below w.heap.size w w') : HSt W s hb rhb t S w' := by
 obtain ⟨L, M, l, h1, h2⟩ := h
 exact ⟨L, M, l, h1.call hB, h2⟩
theorem HSt.fresh (h : HSt W s hb rhb t S w) (hB : Below w.heap.size w w') : HSt W s hb rhb t (fun k => S k ∨ New w w' k) w' := by
 obtain ⟨L, M, l, h1, h2⟩ := h
 exact ⟨L, M, l, h1.fresh hB, h2⟩
theorem HSt.weak (h : HSt W s hb rhb t S w) (ht : ∀ k, T k → S k) : HSt W s hb rhb t T w := by
 obtain ⟨L, M, l, h1, h2⟩ := h
 exact ⟨L, M, l, h1.weak ht, h2⟩
theorem HSt.lt (h : HSt W s hb rhb t S w) {k : Nat} (hk : S k) : k < w.heap.size := by
 obtain ⟨L, M, l, h1, h2⟩ := h
 exact h1.lt hk
theorem HSt.below (h : HSt W s hb rhb t S w) : Below W.heap.size W w := by
 obtain ⟨L, M, l, h1, h2⟩ := h
 exact h1.below
theorem HSt.mono (h : HSt W s hb rhb t S w) {t' : Nat} (ht : t ≤ t') : HSt W s hb rhb t' S w := by
 obtain ⟨L, M, l, h1, h2, h3, h4⟩ := h
 exact ⟨L, M, l, h1.mono (by omega), h2, h3, by omega⟩
theorem HSt.rc (h : HSt W s hb rhb t S w) : w.cell? ⟨rhb, 0, none⟩ = some (.pointer (some ⟨s.srb, 0, none⟩)) ∧ w.cell? ⟨rhb, 1, none⟩ = some (.pointer (some ⟨s.trb, 0, none⟩)) ∧ rhb < w.heap.size := by
 obtain ⟨L, M, l, h1, h2⟩ := h
 exact h1.rc
def Twice (W : World) (s : Sh) (hb rhb t : Nat) (S : Nat → Prop) (F : FuncId) (A : Array Value) (G : FuncId) (B : Array Value) (w : World) : Prop :=
 ∃ k : Int, Calls Tryz.prog F A w fun e w' => e = .returned (.int .i64 k) ∧ SameK S w w' ∧ (w'.cell? ⟨rhb, 0, none⟩ = some (.pointer (some ⟨s.srb, 0, none⟩)) ∧ rhb < w'.heap.size) ∧ Calls Tryz.prog G B w' fun e w'' => e = .returned (.int .i64 k) ∧ HSt W s hb rhb (t + 1) S w'' ∧ SameK S w' w''
theorem cpy_e (c : Cp) (m : Int) (hc : c.e ≤ 9223372036854775807) : (cpy c m).1.e ≤ 9223372036854775807 := by
 show (CX.copyX (toX c) m).1.e ≤ _
 by_cases h : (CX.copyX (toX c) m).2 = 0
 ·exact (CX.good_copy (x := toX c) (y := (CX.copyX (toX c) m).1) (m := m) (by rw [← h]) hc).2.2.2.2.2.2.2.2.2.2.2
 ·rw [CX.copy_zero h]
  decide
theorem mnt_e (c : Cp) (m : Int) (d : Nat) (hc : c.e ≤ 9223372036854775807) : (mnt c m d).1.e ≤ 9223372036854775807 := by
 show (CX.mintX (toX c) m d).1.e ≤ _
 by_cases h : (CX.mintX (toX c) m d).2 = 0
 ·exact (CX.good_mint (x := toX c) (y := (CX.mintX (toX c) m d).1) (m := m) (n := d) (by rw [← h]) hc).2.2.2.2.2.2.2.2.2.2.2
 ·rw [(CX.mint_zero (x := toX c) (y := (CX.mintX (toX c) m d).1) (k := (CX.mintX (toX c) m d).2) rfl).2 h]
  decide
theorem root_code {L M : List Sn} {l : List Nod} (hs : SameS L M) {o i : Int} {c : Cp} (hno : ¬ rootOn L o i c) : rrtN M o i c = rootN L l o i c := by
 unfold rrtN rootN
 rw [gn_same hs, gt_same hs]
 rcases gn_or L o i with q | ⟨q, _⟩
 ·cases hm : someB c with
  | false => simp [q]
  | true =>
   have ha : (gt L o i).a ≠ 0 := fun e => hno ⟨q, hm, e⟩
   simp [q, ha]
 ·simp [q]
theorem child_code {L M : List Sn} {l : List Nod} (hs : SameS L M) (hI : Inv L l) {o i p j : Int} {c : Cp} (h0 : chB L o i p j c = true → (childA l o i p j).2 = 0) : rchN M o i p j c = childN L l o i p j c := by
 have hpp := pair_code L o i p j
 unfold rchN childN childF
 rw [gn_same hs, gn_same hs, gt_same hs, gt_same hs]
 rw [hpp]
 by_cases q : gn L o i ≠ 0 ∨ gn L p j ≠ 0
 ·rw [if_pos q, if_pos q]; rfl
 ·rw [if_neg q, if_neg q]
  cases hm : someB c with
  | false =>
   rw [if_pos rfl]
   by_cases q1 : (gt L o i).a = 0
   ·rw [if_pos q1]; rfl
   ·rw [if_neg q1]
    by_cases q2 : (gt L p j).a ≠ 0
    ·rw [if_pos q2]; rfl
    ·rw [if_neg q2]; rfl
  | true =>
   rw [if_neg (by decide)]
   by_cases q1 : (gt L o i).a = 0
   ·rw [if_pos q1]; rfl
   ·rw [if_neg q1]
    by_cases q2 : (gt L p j).a ≠ 0
    ·rw [if_pos q2]; rfl
    ·rw [if_neg q2]
     have := h0 (by unfold chB; rw [hpp, if_neg q, if_neg q1, if_neg q2, hm]; rfl)
     rw [this]; rfl
theorem root_on_same {L M : List Sn} (hs : SameS L M) {o i : Int} {c : Cp} : rootOn M o i c ↔ rootOn L o i c := by unfold rootOn; rw [gn_same hs, gt_same hs]
theorem full_same {L M : List Sn} (hs : SameS L M) (o i : Int) : fullN M o i = fullN L o i := by unfold fullN; rw [gn_same hs, gt_same hs]
theorem pair_same {L M : List Sn} (hs : SameS L M) (o i p j : Int) : pairN M o i p j = pairN L o i p j := by unfold pairN; rw [gn_same hs, full_same hs, gt_same hs]
theorem chB_same {L M : List Sn} (hs : SameS L M) (o i p j : Int) (c : Cp) : chB M o i p j c = chB L o i p j c := by unfold chB; rw [pair_same hs]
theorem chL_same {L M : List Sn} (hs : SameS L M) (o i p j : Int) (c : Cp) : SameS (chL L o i p j c) (chL M o i p j c) := by
 unfold chL
 rw [chB_same hs]
 split
 ·exact (TabS.set_same hs p j c).2
 ·exact hs
theorem derL_same {L M : List Sn} (hs : SameS L M) (o i p j : Int) (r : Cp × Int) : SameS (derL L o i p j r) (derL M o i p j r) := by
 unfold derL
 rw [pair_same hs]
 split
 ·exact chL_same hs o i p j r.1
 ·exact hs
theorem chT_same {L M : List Sn} (hs : SameS L M) (l : List Nod) (o i p j : Int) (c : Cp) : chT M l o i p j c = chT L l o i p j c := by unfold chT; rw [chB_same hs]
theorem derT_same {L M : List Sn} (hs : SameS L M) (l : List Nod) (o i p j : Int) (r : Cp × Int) : derT M l o i p j r = derT L l o i p j r := by unfold derT; rw [pair_same hs, chT_same hs]
theorem chL_len (L : List Sn) (o i p j : Int) (c : Cp) : (chL L o i p j c).length = L.length := by
 unfold chL; split
 ·exact TabS.set_len L p j c
 ·rfl
theorem derL_len (L : List Sn) (o i p j : Int) (r : Cp × Int) : (derL L o i p j r).length = L.length := by
 unfold derL; split
 ·exact chL_len L o i p j r.1
 ·rfl
theorem Inv.ch {L : List Sn} {l : List Nod} (h : Inv L l) {o i p j : Int} {c : Cp} (he : c.e ≤ 9223372036854775807) (hO : Once (chT L l o i p j c)) : Inv (chL L o i p j c) (chT L l o i p j c) ∧ (chB L o i p j c = true → (childA l o i p j).2 = 0) := by
 unfold chL chT at *
 cases hc : chB L o i p j c with
 | true =>
  rw [hc] at hO
  rw [if_pos rfl, if_pos rfl]
  rw [if_pos rfl] at hO
  have := h.child (chB_on.1 hc) he hO
  exact ⟨this.1, fun _ => this.2⟩
 | false => exact ⟨h, fun e => by cases e⟩
theorem Inv.der {L : List Sn} {l : List Nod} (h : Inv L l) {o i p j : Int} {r : Cp × Int} (he : r.1.e ≤ 9223372036854775807) (hO : Once (derT L l o i p j r)) : Inv (derL L o i p j r) (derT L l o i p j r) ∧ (pairN L o i p j = 0 ∧ r.2 = 0 → chB L o i p j r.1 = true → (childA l o i p j).2 = 0) := by
 unfold derL derT at *
 by_cases hc : pairN L o i p j = 0 ∧ r.2 = 0
 ·rw [if_pos hc] at hO
  rw [if_pos hc, if_pos hc]
  have := h.ch he hO
  exact ⟨this.1, fun _ => this.2⟩
 ·rw [if_neg hc, if_neg hc]
  exact ⟨h, fun e => (hc e).elim⟩
theorem der_code {L M : List Sn} {l : List Nod} (hs : SameS L M) (hI : Inv L l) {o i p j : Int} {r : Cp × Int} (h0 : pairN L o i p j = 0 ∧ r.2 = 0 → chB L o i p j r.1 = true → (childA l o i p j).2 = 0) : rdrN M o i p j r = derN L l o i p j r := by
 unfold rdrN derN
 rw [pair_same hs]
 by_cases h1 : pairN L o i p j = 0
 ·by_cases h2 : r.2 = 0
  ·simp only [h1, h2, ne_eq, not_true, if_false]
   exact child_code hs hI (h0 ⟨h1, h2⟩)
  ·simp [h1, h2]
 ·simp [h1]
theorem small_d {l : List Nod} {n : Nat} (h : ∀ x ∈ l, x.d ≤ n ∧ InS x.o ∧ InS x.i) (hn : n < 1000) : ∀ x ∈ l, x.d < 1000 := fun x hx => by have := (h x hx).1; omega
theorem act_add (ht : t ≤ 110) (h : HSt W s hb rhb t T w) (id k : Int) : Twice W s hb rhb t T 29 #[.pointer (some ⟨hb, 0, none⟩), .int .i64 id, .int .i64 k] 32 #[.pointer (some ⟨s.srb, 0, none⟩), .int .i64 id, .int .i64 k] w := by
 obtain ⟨L, M, l, h1, hI, hs, hlen⟩ := h
 have hML : M.length = L.length := hs.len.symm
 have hA := hs.asc h1.asc
 refine ⟨addSR L id k, (hadd h1 (by omega) id k).mono ?_⟩
 rintro e w1 ⟨rfl, L', hr, g1, k1⟩
 refine ⟨rfl, k1, ⟨g1.rc.1, g1.rc.2.2⟩, (g1.bo.radd hA (by omega) id k).mono ?_⟩
 rintro e w2 ⟨rfl, M', hr', b2, q2⟩
 have hsame := TabS.add_same hs hr hr'
 have hl' := TabS.add_len hr
 exact ⟨by rw [hsame.2], ⟨L', M', l, (g1.lift b2 q2).mono (by omega), hI.add hr g1.asc, hsame.1, by omega⟩, fun k q => q2 k (.inr (.inr q))⟩
theorem act_drop (ht : t ≤ 110) (h : HSt W s hb rhb t T w) (id : Int) : Twice W s hb rhb t T 45 #[.pointer (some ⟨hb, 0, none⟩), .int .i64 id] 46 #[.pointer (some ⟨s.srb, 0, none⟩), .int .i64 id] w := by
 obtain ⟨L, M, l, h1, hI, hs, hlen⟩ := h
 have hML : M.length = L.length := hs.len.symm
 have hA := hs.asc h1.asc
 refine ⟨dropSR L id, (hdrop h1 id).mono ?_⟩
 rintro e w1 ⟨rfl, g1, k1⟩
 refine ⟨rfl, k1, ⟨g1.rc.1, g1.rc.2.2⟩, (g1.act (fun K hK => hK.rdrop hA (by omega) id)).mono ?_⟩
 rintro e w2 ⟨rfl, g2, k2⟩
 have hsame := TabS.drop_same hs id
 have := TabS.drop_len L id
 exact ⟨by rw [hsame.1], ⟨_, _, l, g2.mono (by omega), hI.drop id g1.asc, hsame.2, by omega⟩, k2⟩
section
variable (hT0 : CX.TabG W) (ht : t ≤ 110) (h : HSt W s hb rhb t T w)
include hT0 ht h
theorem act_root (o i : Int) (c : Cp) (ho : InS o) (hi : InS i) (he : c.e ≤ 9223372036854775807) : Twice W s hb rhb t T 30 #[.pointer (some ⟨hb, 0, none⟩), slV o i, c.V] 34 #[.pointer (some ⟨rhb, 0, none⟩), slV o i, c.V] w := by
 obtain ⟨L, M, l, h1, hI, hs, hlen⟩ := h
 have hML : M.length = L.length := hs.len.symm
 have hA := hs.asc h1.asc
 by_cases hon : rootOn L o i c
 ·refine ⟨0, (hroot_yes h1 hT0 o i ho hi c he (by omega) hon).mono ?_⟩
  rintro e w1 ⟨rfl, g1, k1⟩
  obtain ⟨hI', hz⟩ := hI.root hon he g1.once
  rw [hz]
  refine ⟨rfl, k1, ⟨g1.rc.1, g1.rc.2.2⟩, (rroot_yes g1 hA (by omega) o i c (by have := h1.lens.1; omega) ((root_on_same hs).2 hon)).mono ?_⟩
  rintro e w2 ⟨rfl, g2, k2⟩
  exact ⟨rfl, ⟨_, _, _, g2.mono (by omega), hI', (TabS.set_same hs o i c).2, by rw [TabS.set_len]; omega⟩, k2⟩
 ·refine ⟨rootN L l o i c, (hroot_no h1 hT0 o i c he hon).mono ?_⟩
  rintro e w1 ⟨rfl, b1⟩
  have g1 := h1.call b1
  refine ⟨rfl, h1.same b1, ⟨g1.rc.1, g1.rc.2.2⟩, (rroot_no g1 hA (by omega) o i c (fun e => hon ((root_on_same hs).1 e))).mono ?_⟩
  rintro e w2 ⟨rfl, b2⟩
  exact ⟨by rw [root_code hs hon], ⟨L, M, l, (g1.call b2).mono (by omega), hI, hs, by omega⟩, g1.same b2⟩
theorem act_child (o i p j : Int) (c : Cp) (ho : InS o) (hi : InS i) (hp : InS p) (hj : InS j) (he : c.e ≤ 9223372036854775807) : Twice W s hb rhb t T 35 #[.pointer (some ⟨hb, 0, none⟩), slV o i, slV p j, c.V] 36 #[.pointer (some ⟨rhb, 0, none⟩), slV o i, slV p j, c.V] w := by
 obtain ⟨L, M, l, h1, hI, hs, hlen⟩ := h
 have hML : M.length = L.length := hs.len.symm
 have hA := hs.asc h1.asc
 have hln := h1.lens
 refine ⟨childN L l o i p j c, (hchild h1 hT0 o i p j ho hi hp hj c he (by omega)).mono ?_⟩
 rintro e w1 ⟨rfl, g1, k1⟩
 obtain ⟨hI', hz⟩ := hI.ch he g1.once
 refine ⟨rfl, k1, ⟨g1.rc.1, g1.rc.2.2⟩, (rchild g1 hA (by omega) o i p j c (by omega) (small_d hln.2 (by omega))).mono ?_⟩
 rintro e w2 ⟨rfl, g2, k2⟩
 rw [chT_same hs] at g2
 exact ⟨by rw [child_code hs hI hz], ⟨_, _, _, g2.mono (by omega), hI', chL_same hs o i p j c, by rw [chL_len]; omega⟩, k2⟩
theorem act_set (o i : Int) (c : Cp) (ho : InS o) (hi : InS i) (he : c.e ≤ 9223372036854775807) : Twice W s hb rhb t T 37 #[.pointer (some ⟨hb, 0, none⟩), slV o i, c.V] 38 #[.pointer (some ⟨rhb, 0, none⟩), slV o i, c.V] w := by
 obtain ⟨L, M, l, h1, hI, hs, hlen⟩ := h
 have hML : M.length = L.length := hs.len.symm
 have hA := hs.asc h1.asc
 have honM : hsetOn M o i c ↔ hsetOn L o i c := by unfold hsetOn; rw [full_same hs, gt_same hs]
 by_cases hon : hsetOn L o i c
 ·refine ⟨setN L o i c, (hset_yes h1 hT0 o i c he (hI.e o i) hon).mono ?_⟩
  rintro e w1 ⟨rfl, g1, k1⟩
  refine ⟨rfl, k1, ⟨g1.rc.1, g1.rc.2.2⟩, (rset_yes g1 hA (by omega) o i c (honM.2 hon)).mono ?_⟩
  rintro e w2 ⟨rfl, g2, k2⟩
  have ha := full_iff.1 hon.1
  have hal := hon.2
  unfold sameC CX.alikeB at hal
  simp only [Bool.and_eq_true, decide_eq_true_eq] at hal
  exact ⟨by rw [(TabS.set_same hs o i c).1], ⟨_, _, _, g2.mono (by omega), hI.set ha hal.1.1.1.1 hal.1.1.2 he, (TabS.set_same hs o i c).2, by rw [TabS.set_len]; omega⟩, k2⟩
 ·refine ⟨hsetN L o i c, (hset_no h1 hT0 o i c he (hI.e o i) hon).mono ?_⟩
  rintro e w1 ⟨rfl, b1⟩
  have g1 := h1.call b1
  refine ⟨rfl, h1.same b1, ⟨g1.rc.1, g1.rc.2.2⟩, (rset_no g1 hA (by omega) o i c (fun e => hon (honM.1 e))).mono ?_⟩
  rintro e w2 ⟨rfl, b2⟩
  refine ⟨?_, ⟨L, M, l, (g1.call b2).mono (by omega), hI, hs, by omega⟩, g1.same b2⟩
  have : rstN M o i c = hsetN L o i c := by
   unfold rstN hsetN
   rw [gn_same hs, gt_same hs]
   rcases gn_or L o i with q | ⟨q, hz⟩
   ·by_cases ha : (gt L o i).a = 0
    ·have hf : fullN L o i = 10 := by unfold fullN; rw [if_pos ⟨q, ha⟩]
     simp [q, ha, hf]
    ·have hf := full_iff.2 ha
     cases hq : sameC c (gt L o i) with
     | false => simp [q, ha, hf]
     | true => exact (hon ⟨hf, hq⟩).elim
   ·have hf : fullN L o i = 3 := by unfold fullN; rw [q]; rfl
    simp [q, hf]
  rw [this]
theorem act_copy (o i p j m : Int) (ho : InS o) (hi : InS i) (hp : InS p) (hj : InS j) : Twice W s hb rhb t T 16 #[.pointer (some ⟨hb, 0, none⟩), slV o i, slV p j, .int .i64 m] 39 #[.pointer (some ⟨rhb, 0, none⟩), slV o i, slV p j, .int .i64 m] w := by
 obtain ⟨L, M, l, h1, hI, hs, hlen⟩ := h
 have hML : M.length = L.length := hs.len.symm
 have hA := hs.asc h1.asc
 have hln := h1.lens
 have hr := cpy_e (gt L o i) m (hI.e o i)
 refine ⟨derN L l o i p j (cpy (gt L o i) m), (hcopy h1 hT0 o i p j ho hi hp hj m (hI.e o i) hr (by omega)).mono ?_⟩
 rintro e w1 ⟨rfl, g1, k1⟩
 obtain ⟨hI', hz⟩ := hI.der hr g1.once
 refine ⟨rfl, k1, ⟨g1.rc.1, g1.rc.2.2⟩, (rcopy g1 hA (by omega) o i p j m (by omega) (small_d hln.2 (by omega))).mono ?_⟩
 rintro e w2 ⟨rfl, g2, k2⟩
 rw [gt_same hs, derT_same hs] at g2
 exact ⟨by rw [gt_same hs, der_code hs hI hz], ⟨_, _, _, g2.mono (by omega), hI', derL_same hs o i p j _, by rw [derL_len]; omega⟩, k2⟩
theorem act_mint (o i p j m : Int) (d : Nat) (hd : d < 2 ^ 64) (ho : InS o) (hi : InS i) (hp : InS p) (hj : InS j) : Twice W s hb rhb t T 17 #[.pointer (some ⟨hb, 0, none⟩), slV o i, slV p j, .int .i64 m, .int .u64 d] 40 #[.pointer (some ⟨rhb, 0, none⟩), slV o i, slV p j, .int .i64 m, .int .u64 d] w := by
 obtain ⟨L, M, l, h1, hI, hs, hlen⟩ := h
 have hML : M.length = L.length := hs.len.symm
 have hA := hs.asc h1.asc
 have hln := h1.lens
 have hr := mnt_e (gt L o i) m d (hI.e o i)
 refine ⟨derN L l o i p j (mnt (gt L o i) m d), (hmint h1 hT0 o i p j ho hi hp hj m d (hI.e o i) hr hd (by omega)).mono ?_⟩
 rintro e w1 ⟨rfl, g1, k1⟩
 obtain ⟨hI', hz⟩ := hI.der hr g1.once
 refine ⟨rfl, k1, ⟨g1.rc.1, g1.rc.2.2⟩, (rmint g1 hA (by omega) o i p j m d (by omega) (small_d hln.2 (by omega)) hd).mono ?_⟩
 rintro e w2 ⟨rfl, g2, k2⟩
 rw [gt_same hs, derT_same hs] at g2
 exact ⟨by rw [gt_same hs, der_code hs hI hz], ⟨_, _, _, g2.mono (by omega), hI', derL_same hs o i p j _, by rw [derL_len]; omega⟩, k2⟩
theorem act_move (o i p j : Int) (ho : InS o) (hi : InS i) (hp : InS p) (hj : InS j) : Twice W s hb rhb t T 24 #[.pointer (some ⟨hb, 0, none⟩), slV o i, slV p j] 41 #[.pointer (some ⟨rhb, 0, none⟩), slV o i, slV p j] w := by
 obtain ⟨L, M, l, h1, hI, hs, hlen⟩ := h
 have hML : M.length = L.length := hs.len.symm
 have hA := hs.asc h1.asc
 by_cases hon : pairN L o i p j = 0
 ·refine ⟨0, (hmove_yes h1 hT0 o i p j ho hi hp hj (hI.e o i) (hI.e p j) (by omega) hon).mono ?_⟩
  rintro e w1 ⟨rfl, g1, k1⟩
  obtain ⟨z1, z2, z3⟩ := pairN_zero hon
  have hI' := hI.swap (fullN_zero z2).1 z1 g1.once
  refine ⟨rfl, k1, ⟨g1.rc.1, g1.rc.2.2⟩, (rmove_yes g1 hA (by omega) o i p j hI.once ((pair_same hs o i p j).trans hon)).mono ?_⟩
  rintro e w2 ⟨rfl, g2, k2⟩
  rw [moveA_eq hI hon] at g2
  exact ⟨rfl, ⟨_, _, _, g2.mono (by omega), hI', move_same hI hs hon, by unfold swapL; rw [TabS.set_len, TabS.set_len]; omega⟩, k2⟩
 ·refine ⟨pairN L o i p j, (hmove_no h1 o i p j hon).mono ?_⟩
  rintro e w1 ⟨rfl, b1⟩
  have g1 := h1.call b1
  refine ⟨rfl, h1.same b1, ⟨g1.rc.1, g1.rc.2.2⟩, (rmove_no g1 hA (by omega) o i p j (by rw [pair_same hs]; exact hon)).mono ?_⟩
  rintro e w2 ⟨rfl, b2⟩
  exact ⟨by rw [pair_same hs], ⟨L, M, l, (g1.call b2).mono (by omega), hI, hs, by omega⟩, g1.same b2⟩
theorem act_swap (o i p j : Int) (ho : InS o) (hi : InS i) (hp : InS p) (hj : InS j) : Twice W s hb rhb t T 42 #[.pointer (some ⟨hb, 0, none⟩), slV o i, slV p j] 43 #[.pointer (some ⟨rhb, 0, none⟩), slV o i, slV p j] w := by
 obtain ⟨L, M, l, h1, hI, hs, hlen⟩ := h
 have hML : M.length = L.length := hs.len.symm
 have hA := hs.asc h1.asc
 by_cases hon : gn L o i = 0 ∧ gn L p j = 0
 ·refine ⟨0, (hswap_yes h1 hT0 o i p j ho hi hp hj (hI.e o i) (hI.e p j) (by omega) hon).mono ?_⟩
  rintro e w1 ⟨rfl, g1, k1⟩
  have hI' := hI.swap hon.1 hon.2 g1.once
  refine ⟨rfl, k1, ⟨g1.rc.1, g1.rc.2.2⟩, (rswap_yes g1 hA (by omega) o i p j hI.once (by rw [gn_same hs, gn_same hs]; exact hon)).mono ?_⟩
  rintro e w2 ⟨rfl, g2, k2⟩
  refine ⟨rfl, ⟨_, _, _, g2.mono (by omega), hI', ?_, by unfold swapL; rw [TabS.set_len, TabS.set_len]; omega⟩, k2⟩
  unfold swapL
  rw [gt_same hs, gt_same hs]
  exact (TabS.set_same (TabS.set_same hs _ _ _).2 _ _ _).2
 ·refine ⟨swapN L o i p j, (hswap_no h1 o i p j hon).mono ?_⟩
  rintro e w1 ⟨rfl, b1⟩
  have g1 := h1.call b1
  refine ⟨rfl, h1.same b1, ⟨g1.rc.1, g1.rc.2.2⟩, (rswap_no g1 hA (by omega) o i p j (by rw [gn_same hs, gn_same hs]; exact hon)).mono ?_⟩
  rintro e w2 ⟨rfl, b2⟩
  refine ⟨?_, ⟨L, M, l, (g1.call b2).mono (by omega), hI, hs, by omega⟩, g1.same b2⟩
  have : swapN L o i p j = rswN := by
   unfold swapN rswN
   rcases gn_or L o i with q | ⟨q, _⟩ <;> rcases gn_or L p j with r | ⟨r, _⟩ <;> rw [q, r] <;> first | rfl | exact (hon ⟨q, r⟩).elim
  rw [this]
end
end HdS
end
section
namespace HdS
open TabS (Cp Sn zC mayC sizS getR getN Two Pr FootP foot_ltP foot_ltR SameS AddRel addSR setN setM rowsS hasS dropSR dropSL heldA hdsC)
variable {W w w' : World} {s : Sh} {hb rhb n n' t : Nat} {L M L' M' : List Sn} {l l2 l' l2' : List Nod} {S T : Nat → Prop}
theorem ac15 {w : World} {k : Nat} {d o i p j ca cb cx cd ce cf cg ch m : Int} {u : Nat} (h : w.heap[k]? = some (.cells #[.int .i64 d, .int .i64 o, .int .i64 i, .int .i64 p, .int .i64 j, .int .i64 ca, .int .i64 cb, .int .i64 cx, .int .u64 cd, .int .i64 ce, .int .i64 cf, .int .i64 cg, .int .i64 ch, .int .i64 m, .int .u64 u] 35 (0, 0))) (hr : w.cell? ⟨rhb, 0, none⟩ = some (.pointer (some ⟨s.srb, 0, none⟩))) : w.cell? ⟨k, 1, none⟩ = some (.int .i64 o) ∧ w.cell? ⟨k, 2, none⟩ = some (.int .i64 i) ∧ w.cell? ⟨k, 3, none⟩ = some (.int .i64 p) ∧ w.cell? ⟨k, 4, none⟩ = some (.int .i64 j) ∧ w.cell? ⟨k, 5, none⟩ = some (.int .i64 ca) ∧ w.cell? ⟨k, 6, none⟩ = some (.int .i64 cb) ∧ w.cell? ⟨k, 7, none⟩ = some (.int .i64 cx) ∧ w.cell? ⟨k, 8, none⟩ = some (.int .u64 cd) ∧ w.cell? ⟨k, 9, none⟩ = some (.int .i64 ce) ∧ w.cell? ⟨k, 10, none⟩ = some (.int .i64 cf) ∧ w.cell? ⟨k, 11, none⟩ = some (.int .i64 cg) ∧ w.cell? ⟨k, 12, none⟩ = some (.int .i64 ch) ∧ w.cell? ⟨k, 13, none⟩ = some (.int .i64 m) ∧ w.cell? ⟨k, 14, none⟩ = some (.int .u64 u) ∧ w.cell? ⟨rhb, 0, none⟩ = some (.pointer (some ⟨s.srb, 0, none⟩)) :=
 ⟨cell_cur (cur := [.int .i64 d, .int .i64 o, .int .i64 i, .int .i64 p, .int .i64 j, .int .i64 ca, .int .i64 cb, .int .i64 cx, .int .u64 cd, .int .i64 ce, .int .i64 cf, .int .i64 cg, .int .i64 ch, .int .i64 m, .int .u64 u]) h 1, cell_cur (cur := [.int .i64 d, .int .i64 o, .int .i64 i, .int .i64 p, .int .i64 j, .int .i64 ca, .int .i64 cb, .int .i64 cx, .int .u64 cd, .int .i64 ce, .int .i64 cf, .int .i64 cg, .int .i64 ch, .int .i64 m, .int .u64 u]) h 2, cell_cur (cur := [.int .i64 d, .int .i64 o, .int .i64 i, .int .i64 p, .int .i64 j, .int .i64 ca, .int .i64 cb, .int .i64 cx, .int .u64 cd, .int .i64 ce, .int .i64 cf, .int .i64 cg, .int .i64 ch, .int .i64 m, .int .u64 u]) h 3, cell_cur (cur := [.int .i64 d, .int .i64 o, .int .i64 i, .int .i64 p, .int .i64 j, .int .i64 ca, .int .i64 cb, .int .i64 cx, .int .u64 cd, .int .i64 ce, .int .i64 cf, .int .i64 cg, .int .i64 ch, .int .i64 m, .int .u64 u]) h 4, cell_cur (cur := [.int .i64 d, .int .i64 o, .int .i64 i, .int .i64 p, .int .i64 j, .int .i64 ca, .int .i64 cb, .int .i64 cx, .int .u64 cd, .int .i64 ce, .int .i64 cf, .int .i64 cg, .int .i64 ch, .int .i64 m, .int .u64 u]) h 5, cell_cur (cur := [.int .i64 d, .int .i64 o, .int .i64 i, .int .i64 p, .int .i64 j, .int .i64 ca, .int .i64 cb, .int .i64 cx, .int .u64 cd, .int .i64 ce, .int .i64 cf, .int .i64 cg, .int .i64 ch, .int .i64 m, .int .u64 u]) h 6, cell_cur (cur := [.int .i64 d, .int .i64 o, .int .i64 i, .int .i64 p, .int .i64 j, .int .i64 ca, .int .i64 cb, .int .i64 cx, .int .u64 cd, .int .i64 ce, .int .i64 cf, .int .i64 cg, .int .i64 ch, .int .i64 m, .int .u64 u]) h 7, cell_cur (cur := [.int .i64 d, .int .i64 o, .int .i64 i, .int .i64 p, .int .i64 j, .int .i64 ca, .int .i64 cb, .int .i64 cx, .int .u64 cd, .int .i64 ce, .int .i64 cf, .int .i64 cg, .int .i64 ch, .int .i64 m, .int .u64 u]) h 8, cell_cur (cur := [.int .i64 d, .int .i64 o, .int .i64 i, .int .i64 p, .int .i64 j, .int .i64 ca, .int .i64 cb, .int .i64 cx, .int .u64 cd, .int .i64 ce, .int .i64 cf, .int .i64 cg, .int .i64 ch, .int .i64 m, .int .u64 u]) h 9, cell_cur (cur := [.int .i64 d, .int .i64 o, .int .i64 i, .int .i64 p, .int .i64 j, .int .i64 ca, .int .i64 cb, .int .i64 cx, .int .u64 cd, .int .i64 ce, .int .i64 cf, .int .i64 cg, .int .i64 ch, .int .i64 m, .int .u64 u]) h 10, cell_cur (cur := [.int .i64 d, .int .i64 o, .int .i64 i, .int .i64 p, .int .i64 j, .int .i64 ca, .int .i64 cb, .int .i64 cx, .int .u64 cd, .int .i64 ce, .int .i64 cf, .int .i64 cg, .int .i64 ch, .int .i64 m, .int .u64 u]) h 11, cell_cur (cur := [.int .i64 d, .int .i64 o, .int .i64 i, .int .i64 p, .int .i64 j, .int .i64 ca, .int .i64 cb, .int .i64 cx, .int .u64 cd, .int .i64 ce, .int .i64 cf, .int .i64 cg, .int .i64 ch, .int .i64 m, .int .u64 u]) h 12, cell_cur (cur := [.int .i64 d, .int .i64 o, .int .i64 i, .int .i64 p, .int .i64 j, .int .i64 ca, .int .i64 cb, .int .i64 cx, .int .u64 cd, .int .i64 ce, .int .i64 cf, .int .i64 cg, .int .i64 ch, .int .i64 m, .int .u64 u]) h 13, cell_cur (cur := [.int .i64 d, .int .i64 o, .int .i64 i, .int .i64 p, .int .i64 j, .int .i64 ca, .int .i64 cb, .int .i64 cx, .int .u64 cd, .int .i64 ce, .int .i64 cf, .int .i64 cg, .int .i64 ch, .int .i64 m, .int .u64 u]) h 14, hr⟩
theorem act2 {w : World} {k : Nat} {d o i p j ca cb cx cd ce cf cg ch m : Int} {u : Nat} (h : w.heap[k]? = some (.cells #[.int .i64 d, .int .i64 o, .int .i64 i, .int .i64 p, .int .i64 j, .int .i64 ca, .int .i64 cb, .int .i64 cx, .int .u64 cd, .int .i64 ce, .int .i64 cf, .int .i64 cg, .int .i64 ch, .int .i64 m, .int .u64 u] 35 (0, 0))) : w.cell? ⟨k, 1, none⟩ = some (.int .i64 o) ∧ w.cell? ⟨k, 2, none⟩ = some (.int .i64 i) :=
 ⟨cell_cur (cur := [.int .i64 d, .int .i64 o, .int .i64 i, .int .i64 p, .int .i64 j, .int .i64 ca, .int .i64 cb, .int .i64 cx, .int .u64 cd, .int .i64 ce, .int .i64 cf, .int .i64 cg, .int .i64 ch, .int .i64 m, .int .u64 u]) h 1, cell_cur (cur := [.int .i64 d, .int .i64 o, .int .i64 i, .int .i64 p, .int .i64 j, .int .i64 ca, .int .i64 cb, .int .i64 cx, .int .u64 cd, .int .i64 ce, .int .i64 cf, .int .i64 cg, .int .i64 ch, .int .i64 m, .int .u64 u]) h 2⟩
theorem act_clear (hT0 : CX.TabG W) (ht : t ≤ 110) (h : HSt W s hb rhb t T w) (o i : Int) (ho : InS o) (hi : InS i) : ∃ (c : Cp) (k : Int), Calls Tryz.prog 27 #[.pointer (some ⟨hb, 0, none⟩), slV o i] w fun e w' => e = .returned (.tuple #[c.V, .int .i64 k]) ∧ SameK T w w' ∧ rhb < w'.heap.size ∧ ∀ w1, Below w'.heap.size w' w1 → Calls Tryz.prog 44 #[.pointer (some ⟨rhb, 0, none⟩), slV o i] w1 fun e w'' => e = .returned (.tuple #[c.V, .int .i64 k]) ∧ HSt W s hb rhb (t + 1) (fun k => T k ∨ New w' w1 k) w'' ∧ SameK (fun k => T k ∨ New w' w1 k) w1 w'' := by
 obtain ⟨L, M, l, h1, hI, hs, hlen⟩ := h
 have hML : M.length = L.length := hs.len.symm
 have hA := hs.asc h1.asc
 by_cases hon : fullN L o i = 0
 ·refine ⟨gt L o i, 0, (hclear_yes h1 hT0 o i ho hi (by omega) hon).mono ?_⟩
  rintro e w1 ⟨rfl, g1, k1⟩
  obtain ⟨hI', hz⟩ := hI.clear hon g1.once
  rw [hz]
  refine ⟨rfl, k1, g1.rc.2.2, fun w1' hb1 => ?_⟩
  have g1' := g1.fresh hb1
  refine (rclear_yes g1' hA (by omega) o i hI.dep (by rw [full_same hs]; exact hon)).mono ?_
  rintro e w2 ⟨rfl, g2, k2⟩
  exact ⟨by rw [gt_same hs], ⟨_, _, _, g2.mono (by omega), hI', (TabS.set_same hs o i zC).2, by rw [TabS.set_len]; omega⟩, k2⟩
 ·refine ⟨zC, fullN L o i, (hclear_no h1 o i hon).mono ?_⟩
  rintro e w1 ⟨rfl, b1⟩
  have g1 := h1.call b1
  refine ⟨rfl, h1.same b1, g1.rc.2.2, fun w1' hb1 => ?_⟩
  have g1' := g1.fresh hb1
  refine (rclear_no g1' hA (by omega) o i (by rw [full_same hs]; exact hon)).mono ?_
  rintro e w2 ⟨rfl, b2⟩
  refine ⟨?_, ⟨L, M, l, (g1'.call b2).mono (by omega), hI, hs, by omega⟩, fun k q => b2.block k (g1'.lt q)⟩
  have : rclC M o i = zC := by
   unfold rclC
   rw [gn_same hs, gt_same hs]
   by_cases q : gn L o i = 0
   ·rw [if_neg (fun e => e q)]
    by_cases qa : (gt L o i).a = 0
    ·exact zero_of (hI.may o i) qa
    ·exact absurd (full_iff.2 qa) hon
   ·rw [if_pos q]
  rw [this, full_same hs]
theorem done_0 (hT0 : CX.TabG W) (ht : t ≤ 110) (h : HSt W s hb rhb t S w) (o i p j ca cb cx cd ce cf cg ch m : Int) (u : Nat) (ho : InS o) (hi : InS i) (hp : InS p) (hj : InS j) (he : ce ≤ 9223372036854775807) (hu : u < 2 ^ 64) :
  Calls Tryz.prog 10 #[.pointer (some ⟨hb, 0, none⟩), .pointer (some ⟨rhb, 0, none⟩), .agg #[.int .i64 0, .int .i64 o, .int .i64 i, .int .i64 p, .int .i64 j, .int .i64 ca, .int .i64 cb, .int .i64 cx, .int .u64 cd, .int .i64 ce, .int .i64 cf, .int .i64 cg, .int .i64 ch, .int .i64 m, .int .u64 u]] w fun e w' => e = .returned (.bool true) ∧ HSt W s hb rhb (t + 1) S w' ∧ SameK S w w' := by
 obtain ⟨wA, hwA⟩ : ∃ y, y = w.alloc (.cells #[.int .i64 0, .int .i64 o, .int .i64 i, .int .i64 p, .int .i64 j, .int .i64 ca, .int .i64 cb, .int .i64 cx, .int .u64 cd, .int .i64 ce, .int .i64 cf, .int .i64 cg, .int .i64 ch, .int .i64 m, .int .u64 u] 35) := ⟨_, rfl⟩
 have hb1 : Below w.heap.size w wA := hwA ▸ bal (Below.refl _ _) _
 have hx1 : wA.heap[w.heap.size]? = some (.cells #[.int .i64 0, .int .i64 o, .int .i64 i, .int .i64 p, .int .i64 j, .int .i64 ca, .int .i64 cb, .int .i64 cx, .int .u64 cd, .int .i64 ce, .int .i64 cf, .int .i64 cg, .int .i64 ch, .int .i64 m, .int .u64 u] 35 (0, 0)) := by rw [hwA]; exact heap_alloc_new w _
 have hf := (h.fresh hb1)
 have hfd := hf.call (show Below wA.heap.size wA wA.drew from (Below.refl _ _).drew)
 obtain ⟨k, hk⟩ := act_root hT0 ht hfd o i ⟨ca, cb, cx, cd, ce, cf, cg, ch⟩ ho hi he
 have HT1 := hid hk
 have HX1 := hid hx1
 have HN : Hid (New w wA w.heap.size) := hid ⟨Nat.le_refl _, (ags hx1).1⟩
 have HA := hid (ac15 (s := s) (rhb := rhb) hx1 hf.rc.1)
 have HAd : Hid (wA.drew.cell? ⟨w.heap.size, 1, none⟩ = some (.int .i64 o) ∧ wA.drew.cell? ⟨w.heap.size, 2, none⟩ = some (.int .i64 i) ∧ wA.drew.cell? ⟨w.heap.size, 3, none⟩ = some (.int .i64 p) ∧ wA.drew.cell? ⟨w.heap.size, 4, none⟩ = some (.int .i64 j) ∧ wA.drew.cell? ⟨w.heap.size, 5, none⟩ = some (.int .i64 ca) ∧ wA.drew.cell? ⟨w.heap.size, 6, none⟩ = some (.int .i64 cb) ∧ wA.drew.cell? ⟨w.heap.size, 7, none⟩ = some (.int .i64 cx) ∧ wA.drew.cell? ⟨w.heap.size, 8, none⟩ = some (.int .u64 cd) ∧ wA.drew.cell? ⟨w.heap.size, 9, none⟩ = some (.int .i64 ce) ∧ wA.drew.cell? ⟨w.heap.size, 10, none⟩ = some (.int .i64 cf) ∧ wA.drew.cell? ⟨w.heap.size, 11, none⟩ = some (.int .i64 cg) ∧ wA.drew.cell? ⟨w.heap.size, 12, none⟩ = some (.int .i64 ch) ∧ wA.drew.cell? ⟨w.heap.size, 13, none⟩ = some (.int .i64 m) ∧ wA.drew.cell? ⟨w.heap.size, 14, none⟩ = some (.int .u64 u) ∧ wA.drew.cell? ⟨rhb, 0, none⟩ = some (.pointer (some ⟨s.srb, 0, none⟩))) := hid HA.out
 have HS0 : Hid (SameK S w wA) := hid (fun k q => hb1.block k (h.lt q))
 have HW := hid hwA
 clear hk hx1 hf hfd hwA hb1 h hT0 ho hi hp hj he hu ht
 go_enter Tryz.func10, Tryz.ntmps10
 go_upto_region 3 with fail
 rw [show w.alloc (.cells #[.int .i64 0, .int .i64 o, .int .i64 i, .int .i64 p, .int .i64 j, .int .i64 ca, .int .i64 cb, .int .i64 cx, .int .u64 cd, .int .i64 ce, .int .i64 cf, .int .i64 cg, .int .i64 ch, .int .i64 m, .int .u64 u] 35) = wA from HW.out.symm]
 go_region_held3 (fun w' => w'.cell? ⟨w.heap.size, 1, none⟩ = some (.int .i64 o) ∧ w'.cell? ⟨w.heap.size, 2, none⟩ = some (.int .i64 i) ∧ w'.cell? ⟨w.heap.size, 3, none⟩ = some (.int .i64 p) ∧ w'.cell? ⟨w.heap.size, 4, none⟩ = some (.int .i64 j) ∧ w'.cell? ⟨w.heap.size, 5, none⟩ = some (.int .i64 ca) ∧ w'.cell? ⟨w.heap.size, 6, none⟩ = some (.int .i64 cb) ∧ w'.cell? ⟨w.heap.size, 7, none⟩ = some (.int .i64 cx) ∧ w'.cell? ⟨w.heap.size, 8, none⟩ = some (.int .u64 cd) ∧ w'.cell? ⟨w.heap.size, 9, none⟩ = some (.int .i64 ce) ∧ w'.cell? ⟨w.heap.size, 10, none⟩ = some (.int .i64 cf) ∧ w'.cell? ⟨w.heap.size, 11, none⟩ = some (.int .i64 cg) ∧ w'.cell? ⟨w.heap.size, 12, none⟩ = some (.int .i64 ch) ∧ w'.cell? ⟨w.heap.size, 13, none⟩ = some (.int .i64 m) ∧ w'.cell? ⟨w.heap.size, 14, none⟩ = some (.int .u64 u) ∧ w'.cell? ⟨rhb, 0, none⟩ = some (.pointer (some ⟨s.srb, 0, none⟩)))
  (first | (with_reducible exact HA.out) | (with_reducible exact HAd.out) | (with_reducible exact HA2.out) | (with_reducible exact HA4.out))
  (first
   | (go_at_call 33; (with_reducible refine (TabS.num_s _ _).mono ?_); rintro e w3 ⟨rfl, rfl⟩)
   | (go_at_call 34; (with_reducible refine HT2.out.mono ?_); rintro e w4 ⟨rfl, h4, hk4⟩; have H4 := hid h4; have HK4 := hid hk4; have HA4 := hid (ac15 (s := s) (rhb := rhb) ((hk4 _ (.inr HN.out)).trans HX2.out) h4.rc.1); clear h4 hk4)
   | (go_at_call 30; (with_reducible refine HT1.out.mono ?_); rintro e w2 ⟨rfl, hk2, hr2, h2⟩; have HT2 := hid h2; have HK2 := hid hk2; have HX2 := hid ((hk2 _ (.inr HN.out)).trans HX1.out); have HA2 := hid (ac15 (s := s) (rhb := rhb) HX2.out hr2.1); clear h2 hk2 hr2))
 all_goals
  go_wp2
  go_ret
  exact ⟨rfl, H4.out.weak (fun k q => .inl q), fun k q => (HK4.out k (.inl q)).trans ((HK2.out k (.inl q)).trans (HS0.out k q))⟩
theorem done_1 (hT0 : CX.TabG W) (ht : t ≤ 110) (h : HSt W s hb rhb t S w) (o i p j ca cb cx cd ce cf cg ch m : Int) (u : Nat) (ho : InS o) (hi : InS i) (hp : InS p) (hj : InS j) (he : ce ≤ 9223372036854775807) (hu : u < 2 ^ 64) :
  Calls Tryz.prog 10 #[.pointer (some ⟨hb, 0, none⟩), .pointer (some ⟨rhb, 0, none⟩), .agg #[.int .i64 1, .int .i64 o, .int .i64 i, .int .i64 p, .int .i64 j, .int .i64 ca, .int .i64 cb, .int .i64 cx, .int .u64 cd, .int .i64 ce, .int .i64 cf, .int .i64 cg, .int .i64 ch, .int .i64 m, .int .u64 u]] w fun e w' => e = .returned (.bool true) ∧ HSt W s hb rhb (t + 1) S w' ∧ SameK S w w' := by
 obtain ⟨wA, hwA⟩ : ∃ y, y = w.alloc (.cells #[.int .i64 1, .int .i64 o, .int .i64 i, .int .i64 p, .int .i64 j, .int .i64 ca, .int .i64 cb, .int .i64 cx, .int .u64 cd, .int .i64 ce, .int .i64 cf, .int .i64 cg, .int .i64 ch, .int .i64 m, .int .u64 u] 35) := ⟨_, rfl⟩
 have hb1 : Below w.heap.size w wA := hwA ▸ bal (Below.refl _ _) _
 have hx1 : wA.heap[w.heap.size]? = some (.cells #[.int .i64 1, .int .i64 o, .int .i64 i, .int .i64 p, .int .i64 j, .int .i64 ca, .int .i64 cb, .int .i64 cx, .int .u64 cd, .int .i64 ce, .int .i64 cf, .int .i64 cg, .int .i64 ch, .int .i64 m, .int .u64 u] 35 (0, 0)) := by rw [hwA]; exact heap_alloc_new w _
 have hf := (h.fresh hb1)
 have hfd := hf.call (show Below wA.heap.size wA wA.drew from (Below.refl _ _).drew)
 obtain ⟨k, hk⟩ := act_child hT0 ht hfd o i p j ⟨ca, cb, cx, cd, ce, cf, cg, ch⟩ ho hi hp hj he
 have HT1 := hid hk
 have HX1 := hid hx1
 have HN : Hid (New w wA w.heap.size) := hid ⟨Nat.le_refl _, (ags hx1).1⟩
 have HA := hid (ac15 (s := s) (rhb := rhb) hx1 hf.rc.1)
 have HAd : Hid (wA.drew.cell? ⟨w.heap.size, 1, none⟩ = some (.int .i64 o) ∧ wA.drew.cell? ⟨w.heap.size, 2, none⟩ = some (.int .i64 i) ∧ wA.drew.cell? ⟨w.heap.size, 3, none⟩ = some (.int .i64 p) ∧ wA.drew.cell? ⟨w.heap.size, 4, none⟩ = some (.int .i64 j) ∧ wA.drew.cell? ⟨w.heap.size, 5, none⟩ = some (.int .i64 ca) ∧ wA.drew.cell? ⟨w.heap.size, 6, none⟩ = some (.int .i64 cb) ∧ wA.drew.cell? ⟨w.heap.size, 7, none⟩ = some (.int .i64 cx) ∧ wA.drew.cell? ⟨w.heap.size, 8, none⟩ = some (.int .u64 cd) ∧ wA.drew.cell? ⟨w.heap.size, 9, none⟩ = some (.int .i64 ce) ∧ wA.drew.cell? ⟨w.heap.size, 10, none⟩ = some (.int .i64 cf) ∧ wA.drew.cell? ⟨w.heap.size, 11, none⟩ = some (.int .i64 cg) ∧ wA.drew.cell? ⟨w.heap.size, 12, none⟩ = some (.int .i64 ch) ∧ wA.drew.cell? ⟨w.heap.size, 13, none⟩ = some (.int .i64 m) ∧ wA.drew.cell? ⟨w.heap.size, 14, none⟩ = some (.int .u64 u) ∧ wA.drew.cell? ⟨rhb, 0, none⟩ = some (.pointer (some ⟨s.srb, 0, none⟩))) := hid HA.out
 have HS0 : Hid (SameK S w wA) := hid (fun k q => hb1.block k (h.lt q))
 have HW := hid hwA
 clear hk hx1 hf hfd hwA hb1 h hT0 ho hi hp hj he hu ht
 go_enter Tryz.func10, Tryz.ntmps10
 go_upto_region 5 with fail
 rw [show w.alloc (.cells #[.int .i64 1, .int .i64 o, .int .i64 i, .int .i64 p, .int .i64 j, .int .i64 ca, .int .i64 cb, .int .i64 cx, .int .u64 cd, .int .i64 ce, .int .i64 cf, .int .i64 cg, .int .i64 ch, .int .i64 m, .int .u64 u] 35) = wA from HW.out.symm]
 go_region_held3 (fun w' => w'.cell? ⟨w.heap.size, 1, none⟩ = some (.int .i64 o) ∧ w'.cell? ⟨w.heap.size, 2, none⟩ = some (.int .i64 i) ∧ w'.cell? ⟨w.heap.size, 3, none⟩ = some (.int .i64 p) ∧ w'.cell? ⟨w.heap.size, 4, none⟩ = some (.int .i64 j) ∧ w'.cell? ⟨w.heap.size, 5, none⟩ = some (.int .i64 ca) ∧ w'.cell? ⟨w.heap.size, 6, none⟩ = some (.int .i64 cb) ∧ w'.cell? ⟨w.heap.size, 7, none⟩ = some (.int .i64 cx) ∧ w'.cell? ⟨w.heap.size, 8, none⟩ = some (.int .u64 cd) ∧ w'.cell? ⟨w.heap.size, 9, none⟩ = some (.int .i64 ce) ∧ w'.cell? ⟨w.heap.size, 10, none⟩ = some (.int .i64 cf) ∧ w'.cell? ⟨w.heap.size, 11, none⟩ = some (.int .i64 cg) ∧ w'.cell? ⟨w.heap.size, 12, none⟩ = some (.int .i64 ch) ∧ w'.cell? ⟨w.heap.size, 13, none⟩ = some (.int .i64 m) ∧ w'.cell? ⟨w.heap.size, 14, none⟩ = some (.int .u64 u) ∧ w'.cell? ⟨rhb, 0, none⟩ = some (.pointer (some ⟨s.srb, 0, none⟩)))
  (first | (with_reducible exact HA.out) | (with_reducible exact HAd.out) | (with_reducible exact HA2.out) | (with_reducible exact HA4.out))
  (first
   | (go_at_call 33; (with_reducible refine (TabS.num_s _ _).mono ?_); rintro e w3 ⟨rfl, rfl⟩)
   | (go_at_call 36; (with_reducible refine HT2.out.mono ?_); rintro e w4 ⟨rfl, h4, hk4⟩; have H4 := hid h4; have HK4 := hid hk4; have HA4 := hid (ac15 (s := s) (rhb := rhb) ((hk4 _ (.inr HN.out)).trans HX2.out) h4.rc.1); clear h4 hk4)
   | (go_at_call 35; (with_reducible refine HT1.out.mono ?_); rintro e w2 ⟨rfl, hk2, hr2, h2⟩; have HT2 := hid h2; have HK2 := hid hk2; have HX2 := hid ((hk2 _ (.inr HN.out)).trans HX1.out); have HA2 := hid (ac15 (s := s) (rhb := rhb) HX2.out hr2.1); clear h2 hk2 hr2))
 all_goals
  go_wp2
  go_ret
  exact ⟨rfl, H4.out.weak (fun k q => .inl q), fun k q => (HK4.out k (.inl q)).trans ((HK2.out k (.inl q)).trans (HS0.out k q))⟩
theorem done_2 (hT0 : CX.TabG W) (ht : t ≤ 110) (h : HSt W s hb rhb t S w) (o i p j ca cb cx cd ce cf cg ch m : Int) (u : Nat) (ho : InS o) (hi : InS i) (hp : InS p) (hj : InS j) (he : ce ≤ 9223372036854775807) (hu : u < 2 ^ 64) :
  Calls Tryz.prog 10 #[.pointer (some ⟨hb, 0, none⟩), .pointer (some ⟨rhb, 0, none⟩), .agg #[.int .i64 2, .int .i64 o, .int .i64 i, .int .i64 p, .int .i64 j, .int .i64 ca, .int .i64 cb, .int .i64 cx, .int .u64 cd, .int .i64 ce, .int .i64 cf, .int .i64 cg, .int .i64 ch, .int .i64 m, .int .u64 u]] w fun e w' => e = .returned (.bool true) ∧ HSt W s hb rhb (t + 1) S w' ∧ SameK S w w' := by
 obtain ⟨wA, hwA⟩ : ∃ y, y = w.alloc (.cells #[.int .i64 2, .int .i64 o, .int .i64 i, .int .i64 p, .int .i64 j, .int .i64 ca, .int .i64 cb, .int .i64 cx, .int .u64 cd, .int .i64 ce, .int .i64 cf, .int .i64 cg, .int .i64 ch, .int .i64 m, .int .u64 u] 35) := ⟨_, rfl⟩
 have hb1 : Below w.heap.size w wA := hwA ▸ bal (Below.refl _ _) _
 have hx1 : wA.heap[w.heap.size]? = some (.cells #[.int .i64 2, .int .i64 o, .int .i64 i, .int .i64 p, .int .i64 j, .int .i64 ca, .int .i64 cb, .int .i64 cx, .int .u64 cd, .int .i64 ce, .int .i64 cf, .int .i64 cg, .int .i64 ch, .int .i64 m, .int .u64 u] 35 (0, 0)) := by rw [hwA]; exact heap_alloc_new w _
 have hf := (h.fresh hb1)
 have hfd := hf.call (show Below wA.heap.size wA wA.drew from (Below.refl _ _).drew)
 obtain ⟨k, hk⟩ := act_set hT0 ht hfd o i ⟨ca, cb, cx, cd, ce, cf, cg, ch⟩ ho hi he
 have HT1 := hid hk
 have HX1 := hid hx1
 have HN : Hid (New w wA w.heap.size) := hid ⟨Nat.le_refl _, (ags hx1).1⟩
 have HA := hid (ac15 (s := s) (rhb := rhb) hx1 hf.rc.1)
 have HAd : Hid (wA.drew.cell? ⟨w.heap.size, 1, none⟩ = some (.int .i64 o) ∧ wA.drew.cell? ⟨w.heap.size, 2, none⟩ = some (.int .i64 i) ∧ wA.drew.cell? ⟨w.heap.size, 3, none⟩ = some (.int .i64 p) ∧ wA.drew.cell? ⟨w.heap.size, 4, none⟩ = some (.int .i64 j) ∧ wA.drew.cell? ⟨w.heap.size, 5, none⟩ = some (.int .i64 ca) ∧ wA.drew.cell? ⟨w.heap.size, 6, none⟩ = some (.int .i64 cb) ∧ wA.drew.cell? ⟨w.heap.size, 7, none⟩ = some (.int .i64 cx) ∧ wA.drew.cell? ⟨w.heap.size, 8, none⟩ = some (.int .u64 cd) ∧ wA.drew.cell? ⟨w.heap.size, 9, none⟩ = some (.int .i64 ce) ∧ wA.drew.cell? ⟨w.heap.size, 10, none⟩ = some (.int .i64 cf) ∧ wA.drew.cell? ⟨w.heap.size, 11, none⟩ = some (.int .i64 cg) ∧ wA.drew.cell? ⟨w.heap.size, 12, none⟩ = some (.int .i64 ch) ∧ wA.drew.cell? ⟨w.heap.size, 13, none⟩ = some (.int .i64 m) ∧ wA.drew.cell? ⟨w.heap.size, 14, none⟩ = some (.int .u64 u) ∧ wA.drew.cell? ⟨rhb, 0, none⟩ = some (.pointer (some ⟨s.srb, 0, none⟩))) := hid HA.out
 have HS0 : Hid (SameK S w wA) := hid (fun k q => hb1.block k (h.lt q))
 have HW := hid hwA
 clear hk hx1 hf hfd hwA hb1 h hT0 ho hi hp hj he hu ht
 go_enter Tryz.func10, Tryz.ntmps10
 go_upto_region 7 with fail
 rw [show w.alloc (.cells #[.int .i64 2, .int .i64 o, .int .i64 i, .int .i64 p, .int .i64 j, .int .i64 ca, .int .i64 cb, .int .i64 cx, .int .u64 cd, .int .i64 ce, .int .i64 cf, .int .i64 cg, .int .i64 ch, .int .i64 m, .int .u64 u] 35) = wA from HW.out.symm]
 go_region_held3 (fun w' => w'.cell? ⟨w.heap.size, 1, none⟩ = some (.int .i64 o) ∧ w'.cell? ⟨w.heap.size, 2, none⟩ = some (.int .i64 i) ∧ w'.cell? ⟨w.heap.size, 3, none⟩ = some (.int .i64 p) ∧ w'.cell? ⟨w.heap.size, 4, none⟩ = some (.int .i64 j) ∧ w'.cell? ⟨w.heap.size, 5, none⟩ = some (.int .i64 ca) ∧ w'.cell? ⟨w.heap.size, 6, none⟩ = some (.int .i64 cb) ∧ w'.cell? ⟨w.heap.size, 7, none⟩ = some (.int .i64 cx) ∧ w'.cell? ⟨w.heap.size, 8, none⟩ = some (.int .u64 cd) ∧ w'.cell? ⟨w.heap.size, 9, none⟩ = some (.int .i64 ce) ∧ w'.cell? ⟨w.heap.size, 10, none⟩ = some (.int .i64 cf) ∧ w'.cell? ⟨w.heap.size, 11, none⟩ = some (.int .i64 cg) ∧ w'.cell? ⟨w.heap.size, 12, none⟩ = some (.int .i64 ch) ∧ w'.cell? ⟨w.heap.size, 13, none⟩ = some (.int .i64 m) ∧ w'.cell? ⟨w.heap.size, 14, none⟩ = some (.int .u64 u) ∧ w'.cell? ⟨rhb, 0, none⟩ = some (.pointer (some ⟨s.srb, 0, none⟩)))
  (first | (with_reducible exact HA.out) | (with_reducible exact HAd.out) | (with_reducible exact HA2.out) | (with_reducible exact HA4.out))
  (first
   | (go_at_call 33; (with_reducible refine (TabS.num_s _ _).mono ?_); rintro e w3 ⟨rfl, rfl⟩)
   | (go_at_call 38; (with_reducible refine HT2.out.mono ?_); rintro e w4 ⟨rfl, h4, hk4⟩; have H4 := hid h4; have HK4 := hid hk4; have HA4 := hid (ac15 (s := s) (rhb := rhb) ((hk4 _ (.inr HN.out)).trans HX2.out) h4.rc.1); clear h4 hk4)
   | (go_at_call 37; (with_reducible refine HT1.out.mono ?_); rintro e w2 ⟨rfl, hk2, hr2, h2⟩; have HT2 := hid h2; have HK2 := hid hk2; have HX2 := hid ((hk2 _ (.inr HN.out)).trans HX1.out); have HA2 := hid (ac15 (s := s) (rhb := rhb) HX2.out hr2.1); clear h2 hk2 hr2))
 all_goals
  go_wp2
  go_ret
  exact ⟨rfl, H4.out.weak (fun k q => .inl q), fun k q => (HK4.out k (.inl q)).trans ((HK2.out k (.inl q)).trans (HS0.out k q))⟩
theorem done_3 (hT0 : CX.TabG W) (ht : t ≤ 110) (h : HSt W s hb rhb t S w) (o i p j ca cb cx cd ce cf cg ch m : Int) (u : Nat) (ho : InS o) (hi : InS i) (hp : InS p) (hj : InS j) (he : ce ≤ 9223372036854775807) (hu : u < 2 ^ 64) :
  Calls Tryz.prog 10 #[.pointer (some ⟨hb, 0, none⟩), .pointer (some ⟨rhb, 0, none⟩), .agg #[.int .i64 3, .int .i64 o, .int .i64 i, .int .i64 p, .int .i64 j, .int .i64 ca, .int .i64 cb, .int .i64 cx, .int .u64 cd, .int .i64 ce, .int .i64 cf, .int .i64 cg, .int .i64 ch, .int .i64 m, .int .u64 u]] w fun e w' => e = .returned (.bool true) ∧ HSt W s hb rhb (t + 1) S w' ∧ SameK S w w' := by
 obtain ⟨wA, hwA⟩ : ∃ y, y = w.alloc (.cells #[.int .i64 3, .int .i64 o, .int .i64 i, .int .i64 p, .int .i64 j, .int .i64 ca, .int .i64 cb, .int .i64 cx, .int .u64 cd, .int .i64 ce, .int .i64 cf, .int .i64 cg, .int .i64 ch, .int .i64 m, .int .u64 u] 35) := ⟨_, rfl⟩
 have hb1 : Below w.heap.size w wA := hwA ▸ bal (Below.refl _ _) _
 have hx1 : wA.heap[w.heap.size]? = some (.cells #[.int .i64 3, .int .i64 o, .int .i64 i, .int .i64 p, .int .i64 j, .int .i64 ca, .int .i64 cb, .int .i64 cx, .int .u64 cd, .int .i64 ce, .int .i64 cf, .int .i64 cg, .int .i64 ch, .int .i64 m, .int .u64 u] 35 (0, 0)) := by rw [hwA]; exact heap_alloc_new w _
 have hf := (h.fresh hb1)
 have hfd := hf.call (show Below wA.heap.size wA wA.drew from (Below.refl _ _).drew)
 obtain ⟨k, hk⟩ := act_copy hT0 ht hfd o i p j m ho hi hp hj
 have HT1 := hid hk
 have HX1 := hid hx1
 have HN : Hid (New w wA w.heap.size) := hid ⟨Nat.le_refl _, (ags hx1).1⟩
 have HA := hid (ac15 (s := s) (rhb := rhb) hx1 hf.rc.1)
 have HAd : Hid (wA.drew.cell? ⟨w.heap.size, 1, none⟩ = some (.int .i64 o) ∧ wA.drew.cell? ⟨w.heap.size, 2, none⟩ = some (.int .i64 i) ∧ wA.drew.cell? ⟨w.heap.size, 3, none⟩ = some (.int .i64 p) ∧ wA.drew.cell? ⟨w.heap.size, 4, none⟩ = some (.int .i64 j) ∧ wA.drew.cell? ⟨w.heap.size, 5, none⟩ = some (.int .i64 ca) ∧ wA.drew.cell? ⟨w.heap.size, 6, none⟩ = some (.int .i64 cb) ∧ wA.drew.cell? ⟨w.heap.size, 7, none⟩ = some (.int .i64 cx) ∧ wA.drew.cell? ⟨w.heap.size, 8, none⟩ = some (.int .u64 cd) ∧ wA.drew.cell? ⟨w.heap.size, 9, none⟩ = some (.int .i64 ce) ∧ wA.drew.cell? ⟨w.heap.size, 10, none⟩ = some (.int .i64 cf) ∧ wA.drew.cell? ⟨w.heap.size, 11, none⟩ = some (.int .i64 cg) ∧ wA.drew.cell? ⟨w.heap.size, 12, none⟩ = some (.int .i64 ch) ∧ wA.drew.cell? ⟨w.heap.size, 13, none⟩ = some (.int .i64 m) ∧ wA.drew.cell? ⟨w.heap.size, 14, none⟩ = some (.int .u64 u) ∧ wA.drew.cell? ⟨rhb, 0, none⟩ = some (.pointer (some ⟨s.srb, 0, none⟩))) := hid HA.out
 have HS0 : Hid (SameK S w wA) := hid (fun k q => hb1.block k (h.lt q))
 have HW := hid hwA
 clear hk hx1 hf hfd hwA hb1 h hT0 ho hi hp hj he hu ht
 go_enter Tryz.func10, Tryz.ntmps10
 go_upto_region 9 with fail
 rw [show w.alloc (.cells #[.int .i64 3, .int .i64 o, .int .i64 i, .int .i64 p, .int .i64 j, .int .i64 ca, .int .i64 cb, .int .i64 cx, .int .u64 cd, .int .i64 ce, .int .i64 cf, .int .i64 cg, .int .i64 ch, .int .i64 m, .int .u64 u] 35) = wA from HW.out.symm]
 go_region_held3 (fun w' => w'.cell? ⟨w.heap.size, 1, none⟩ = some (.int .i64 o) ∧ w'.cell? ⟨w.heap.size, 2, none⟩ = some (.int .i64 i) ∧ w'.cell? ⟨w.heap.size, 3, none⟩ = some (.int .i64 p) ∧ w'.cell? ⟨w.heap.size, 4, none⟩ = some (.int .i64 j) ∧ w'.cell? ⟨w.heap.size, 5, none⟩ = some (.int .i64 ca) ∧ w'.cell? ⟨w.heap.size, 6, none⟩ = some (.int .i64 cb) ∧ w'.cell? ⟨w.heap.size, 7, none⟩ = some (.int .i64 cx) ∧ w'.cell? ⟨w.heap.size, 8, none⟩ = some (.int .u64 cd) ∧ w'.cell? ⟨w.heap.size, 9, none⟩ = some (.int .i64 ce) ∧ w'.cell? ⟨w.heap.size, 10, none⟩ = some (.int .i64 cf) ∧ w'.cell? ⟨w.heap.size, 11, none⟩ = some (.int .i64 cg) ∧ w'.cell? ⟨w.heap.size, 12, none⟩ = some (.int .i64 ch) ∧ w'.cell? ⟨w.heap.size, 13, none⟩ = some (.int .i64 m) ∧ w'.cell? ⟨w.heap.size, 14, none⟩ = some (.int .u64 u) ∧ w'.cell? ⟨rhb, 0, none⟩ = some (.pointer (some ⟨s.srb, 0, none⟩)))
  (first | (with_reducible exact HA.out) | (with_reducible exact HAd.out) | (with_reducible exact HA2.out) | (with_reducible exact HA4.out))
  (first
   | (go_at_call 33; (with_reducible refine (TabS.num_s _ _).mono ?_); rintro e w3 ⟨rfl, rfl⟩)
   | (go_at_call 39; (with_reducible refine HT2.out.mono ?_); rintro e w4 ⟨rfl, h4, hk4⟩; have H4 := hid h4; have HK4 := hid hk4; have HA4 := hid (ac15 (s := s) (rhb := rhb) ((hk4 _ (.inr HN.out)).trans HX2.out) h4.rc.1); clear h4 hk4)
   | (go_at_call 16; (with_reducible refine HT1.out.mono ?_); rintro e w2 ⟨rfl, hk2, hr2, h2⟩; have HT2 := hid h2; have HK2 := hid hk2; have HX2 := hid ((hk2 _ (.inr HN.out)).trans HX1.out); have HA2 := hid (ac15 (s := s) (rhb := rhb) HX2.out hr2.1); clear h2 hk2 hr2))
 all_goals
  go_wp2
  go_ret
  exact ⟨rfl, H4.out.weak (fun k q => .inl q), fun k q => (HK4.out k (.inl q)).trans ((HK2.out k (.inl q)).trans (HS0.out k q))⟩
theorem done_4 (hT0 : CX.TabG W) (ht : t ≤ 110) (h : HSt W s hb rhb t S w) (o i p j ca cb cx cd ce cf cg ch m : Int) (u : Nat) (ho : InS o) (hi : InS i) (hp : InS p) (hj : InS j) (he : ce ≤ 9223372036854775807) (hu : u < 2 ^ 64) :
  Calls Tryz.prog 10 #[.pointer (some ⟨hb, 0, none⟩), .pointer (some ⟨rhb, 0, none⟩), .agg #[.int .i64 4, .int .i64 o, .int .i64 i, .int .i64 p, .int .i64 j, .int .i64 ca, .int .i64 cb, .int .i64 cx, .int .u64 cd, .int .i64 ce, .int .i64 cf, .int .i64 cg, .int .i64 ch, .int .i64 m, .int .u64 u]] w fun e w' => e = .returned (.bool true) ∧ HSt W s hb rhb (t + 1) S w' ∧ SameK S w w' := by
 obtain ⟨wA, hwA⟩ : ∃ y, y = w.alloc (.cells #[.int .i64 4, .int .i64 o, .int .i64 i, .int .i64 p, .int .i64 j, .int .i64 ca, .int .i64 cb, .int .i64 cx, .int .u64 cd, .int .i64 ce, .int .i64 cf, .int .i64 cg, .int .i64 ch, .int .i64 m, .int .u64 u] 35) := ⟨_, rfl⟩
 have hb1 : Below w.heap.size w wA := hwA ▸ bal (Below.refl _ _) _
 have hx1 : wA.heap[w.heap.size]? = some (.cells #[.int .i64 4, .int .i64 o, .int .i64 i, .int .i64 p, .int .i64 j, .int .i64 ca, .int .i64 cb, .int .i64 cx, .int .u64 cd, .int .i64 ce, .int .i64 cf, .int .i64 cg, .int .i64 ch, .int .i64 m, .int .u64 u] 35 (0, 0)) := by rw [hwA]; exact heap_alloc_new w _
 have hf := (h.fresh hb1)
 have hfd := hf.call (show Below wA.heap.size wA wA.drew from (Below.refl _ _).drew)
 obtain ⟨k, hk⟩ := act_mint hT0 ht hfd o i p j m u hu ho hi hp hj
 have HT1 := hid hk
 have HX1 := hid hx1
 have HN : Hid (New w wA w.heap.size) := hid ⟨Nat.le_refl _, (ags hx1).1⟩
 have HA := hid (ac15 (s := s) (rhb := rhb) hx1 hf.rc.1)
 have HAd : Hid (wA.drew.cell? ⟨w.heap.size, 1, none⟩ = some (.int .i64 o) ∧ wA.drew.cell? ⟨w.heap.size, 2, none⟩ = some (.int .i64 i) ∧ wA.drew.cell? ⟨w.heap.size, 3, none⟩ = some (.int .i64 p) ∧ wA.drew.cell? ⟨w.heap.size, 4, none⟩ = some (.int .i64 j) ∧ wA.drew.cell? ⟨w.heap.size, 5, none⟩ = some (.int .i64 ca) ∧ wA.drew.cell? ⟨w.heap.size, 6, none⟩ = some (.int .i64 cb) ∧ wA.drew.cell? ⟨w.heap.size, 7, none⟩ = some (.int .i64 cx) ∧ wA.drew.cell? ⟨w.heap.size, 8, none⟩ = some (.int .u64 cd) ∧ wA.drew.cell? ⟨w.heap.size, 9, none⟩ = some (.int .i64 ce) ∧ wA.drew.cell? ⟨w.heap.size, 10, none⟩ = some (.int .i64 cf) ∧ wA.drew.cell? ⟨w.heap.size, 11, none⟩ = some (.int .i64 cg) ∧ wA.drew.cell? ⟨w.heap.size, 12, none⟩ = some (.int .i64 ch) ∧ wA.drew.cell? ⟨w.heap.size, 13, none⟩ = some (.int .i64 m) ∧ wA.drew.cell? ⟨w.heap.size, 14, none⟩ = some (.int .u64 u) ∧ wA.drew.cell? ⟨rhb, 0, none⟩ = some (.pointer (some ⟨s.srb, 0, none⟩))) := hid HA.out
 have HS0 : Hid (SameK S w wA) := hid (fun k q => hb1.block k (h.lt q))
 have HW := hid hwA
 clear hk hx1 hf hfd hwA hb1 h hT0 ho hi hp hj he hu ht
 go_enter Tryz.func10, Tryz.ntmps10
 go_upto_region 11 with fail
 rw [show w.alloc (.cells #[.int .i64 4, .int .i64 o, .int .i64 i, .int .i64 p, .int .i64 j, .int .i64 ca, .int .i64 cb, .int .i64 cx, .int .u64 cd, .int .i64 ce, .int .i64 cf, .int .i64 cg, .int .i64 ch, .int .i64 m, .int .u64 u] 35) = wA from HW.out.symm]
 go_region_held3 (fun w' => w'.cell? ⟨w.heap.size, 1, none⟩ = some (.int .i64 o) ∧ w'.cell? ⟨w.heap.size, 2, none⟩ = some (.int .i64 i) ∧ w'.cell? ⟨w.heap.size, 3, none⟩ = some (.int .i64 p) ∧ w'.cell? ⟨w.heap.size, 4, none⟩ = some (.int .i64 j) ∧ w'.cell? ⟨w.heap.size, 5, none⟩ = some (.int .i64 ca) ∧ w'.cell? ⟨w.heap.size, 6, none⟩ = some (.int .i64 cb) ∧ w'.cell? ⟨w.heap.size, 7, none⟩ = some (.int .i64 cx) ∧ w'.cell? ⟨w.heap.size, 8, none⟩ = some (.int .u64 cd) ∧ w'.cell? ⟨w.heap.size, 9, none⟩ = some (.int .i64 ce) ∧ w'.cell? ⟨w.heap.size, 10, none⟩ = some (.int .i64 cf) ∧ w'.cell? ⟨w.heap.size, 11, none⟩ = some (.int .i64 cg) ∧ w'.cell? ⟨w.heap.size, 12, none⟩ = some (.int .i64 ch) ∧ w'.cell? ⟨w.heap.size, 13, none⟩ = some (.int .i64 m) ∧ w'.cell? ⟨w.heap.size, 14, none⟩ = some (.int .u64 u) ∧ w'.cell? ⟨rhb, 0, none⟩ = some (.pointer (some ⟨s.srb, 0, none⟩)))
  (first | (with_reducible exact HA.out) | (with_reducible exact HAd.out) | (with_reducible exact HA2.out) | (with_reducible exact HA4.out))
  (first
   | (go_at_call 33; (with_reducible refine (TabS.num_s _ _).mono ?_); rintro e w3 ⟨rfl, rfl⟩)
   | (go_at_call 40; (with_reducible refine HT2.out.mono ?_); rintro e w4 ⟨rfl, h4, hk4⟩; have H4 := hid h4; have HK4 := hid hk4; have HA4 := hid (ac15 (s := s) (rhb := rhb) ((hk4 _ (.inr HN.out)).trans HX2.out) h4.rc.1); clear h4 hk4)
   | (go_at_call 17; (with_reducible refine HT1.out.mono ?_); rintro e w2 ⟨rfl, hk2, hr2, h2⟩; have HT2 := hid h2; have HK2 := hid hk2; have HX2 := hid ((hk2 _ (.inr HN.out)).trans HX1.out); have HA2 := hid (ac15 (s := s) (rhb := rhb) HX2.out hr2.1); clear h2 hk2 hr2))
 all_goals
  go_wp2
  go_ret
  exact ⟨rfl, H4.out.weak (fun k q => .inl q), fun k q => (HK4.out k (.inl q)).trans ((HK2.out k (.inl q)).trans (HS0.out k q))⟩
theorem done_5 (hT0 : CX.TabG W) (ht : t ≤ 110) (h : HSt W s hb rhb t S w) (o i p j ca cb cx cd ce cf cg ch m : Int) (u : Nat) (ho : InS o) (hi : InS i) (hp : InS p) (hj : InS j) (he : ce ≤ 9223372036854775807) (hu : u < 2 ^ 64) :
  Calls Tryz.prog 10 #[.pointer (some ⟨hb, 0, none⟩), .pointer (some ⟨rhb, 0, none⟩), .agg #[.int .i64 5, .int .i64 o, .int .i64 i, .int .i64 p, .int .i64 j, .int .i64 ca, .int .i64 cb, .int .i64 cx, .int .u64 cd, .int .i64 ce, .int .i64 cf, .int .i64 cg, .int .i64 ch, .int .i64 m, .int .u64 u]] w fun e w' => e = .returned (.bool true) ∧ HSt W s hb rhb (t + 1) S w' ∧ SameK S w w' := by
 obtain ⟨wA, hwA⟩ : ∃ y, y = w.alloc (.cells #[.int .i64 5, .int .i64 o, .int .i64 i, .int .i64 p, .int .i64 j, .int .i64 ca, .int .i64 cb, .int .i64 cx, .int .u64 cd, .int .i64 ce, .int .i64 cf, .int .i64 cg, .int .i64 ch, .int .i64 m, .int .u64 u] 35) := ⟨_, rfl⟩
 have hb1 : Below w.heap.size w wA := hwA ▸ bal (Below.refl _ _) _
 have hx1 : wA.heap[w.heap.size]? = some (.cells #[.int .i64 5, .int .i64 o, .int .i64 i, .int .i64 p, .int .i64 j, .int .i64 ca, .int .i64 cb, .int .i64 cx, .int .u64 cd, .int .i64 ce, .int .i64 cf, .int .i64 cg, .int .i64 ch, .int .i64 m, .int .u64 u] 35 (0, 0)) := by rw [hwA]; exact heap_alloc_new w _
 have hf := (h.fresh hb1)
 have hfd := hf.call (show Below wA.heap.size wA wA.drew from (Below.refl _ _).drew)
 obtain ⟨k, hk⟩ := act_move hT0 ht hfd o i p j ho hi hp hj
 have HT1 := hid hk
 have HX1 := hid hx1
 have HN : Hid (New w wA w.heap.size) := hid ⟨Nat.le_refl _, (ags hx1).1⟩
 have HA := hid (ac15 (s := s) (rhb := rhb) hx1 hf.rc.1)
 have HAd : Hid (wA.drew.cell? ⟨w.heap.size, 1, none⟩ = some (.int .i64 o) ∧ wA.drew.cell? ⟨w.heap.size, 2, none⟩ = some (.int .i64 i) ∧ wA.drew.cell? ⟨w.heap.size, 3, none⟩ = some (.int .i64 p) ∧ wA.drew.cell? ⟨w.heap.size, 4, none⟩ = some (.int .i64 j) ∧ wA.drew.cell? ⟨w.heap.size, 5, none⟩ = some (.int .i64 ca) ∧ wA.drew.cell? ⟨w.heap.size, 6, none⟩ = some (.int .i64 cb) ∧ wA.drew.cell? ⟨w.heap.size, 7, none⟩ = some (.int .i64 cx) ∧ wA.drew.cell? ⟨w.heap.size, 8, none⟩ = some (.int .u64 cd) ∧ wA.drew.cell? ⟨w.heap.size, 9, none⟩ = some (.int .i64 ce) ∧ wA.drew.cell? ⟨w.heap.size, 10, none⟩ = some (.int .i64 cf) ∧ wA.drew.cell? ⟨w.heap.size, 11, none⟩ = some (.int .i64 cg) ∧ wA.drew.cell? ⟨w.heap.size, 12, none⟩ = some (.int .i64 ch) ∧ wA.drew.cell? ⟨w.heap.size, 13, none⟩ = some (.int .i64 m) ∧ wA.drew.cell? ⟨w.heap.size, 14, none⟩ = some (.int .u64 u) ∧ wA.drew.cell? ⟨rhb, 0, none⟩ = some (.pointer (some ⟨s.srb, 0, none⟩))) := hid HA.out
 have HS0 : Hid (SameK S w wA) := hid (fun k q => hb1.block k (h.lt q))
 have HW := hid hwA
 clear hk hx1 hf hfd hwA hb1 h hT0 ho hi hp hj he hu ht
 go_enter Tryz.func10, Tryz.ntmps10
 go_upto_region 13 with fail
 rw [show w.alloc (.cells #[.int .i64 5, .int .i64 o, .int .i64 i, .int .i64 p, .int .i64 j, .int .i64 ca, .int .i64 cb, .int .i64 cx, .int .u64 cd, .int .i64 ce, .int .i64 cf, .int .i64 cg, .int .i64 ch, .int .i64 m, .int .u64 u] 35) = wA from HW.out.symm]
 go_region_held3 (fun w' => w'.cell? ⟨w.heap.size, 1, none⟩ = some (.int .i64 o) ∧ w'.cell? ⟨w.heap.size, 2, none⟩ = some (.int .i64 i) ∧ w'.cell? ⟨w.heap.size, 3, none⟩ = some (.int .i64 p) ∧ w'.cell? ⟨w.heap.size, 4, none⟩ = some (.int .i64 j) ∧ w'.cell? ⟨w.heap.size, 5, none⟩ = some (.int .i64 ca) ∧ w'.cell? ⟨w.heap.size, 6, none⟩ = some (.int .i64 cb) ∧ w'.cell? ⟨w.heap.size, 7, none⟩ = some (.int .i64 cx) ∧ w'.cell? ⟨w.heap.size, 8, none⟩ = some (.int .u64 cd) ∧ w'.cell? ⟨w.heap.size, 9, none⟩ = some (.int .i64 ce) ∧ w'.cell? ⟨w.heap.size, 10, none⟩ = some (.int .i64 cf) ∧ w'.cell? ⟨w.heap.size, 11, none⟩ = some (.int .i64 cg) ∧ w'.cell? ⟨w.heap.size, 12, none⟩ = some (.int .i64 ch) ∧ w'.cell? ⟨w.heap.size, 13, none⟩ = some (.int .i64 m) ∧ w'.cell? ⟨w.heap.size, 14, none⟩ = some (.int .u64 u) ∧ w'.cell? ⟨rhb, 0, none⟩ = some (.pointer (some ⟨s.srb, 0, none⟩)))
  (first | (with_reducible exact HA.out) | (with_reducible exact HAd.out) | (with_reducible exact HA2.out) | (with_reducible exact HA4.out))
  (first
   | (go_at_call 33; (with_reducible refine (TabS.num_s _ _).mono ?_); rintro e w3 ⟨rfl, rfl⟩)
   | (go_at_call 41; (with_reducible refine HT2.out.mono ?_); rintro e w4 ⟨rfl, h4, hk4⟩; have H4 := hid h4; have HK4 := hid hk4; have HA4 := hid (ac15 (s := s) (rhb := rhb) ((hk4 _ (.inr HN.out)).trans HX2.out) h4.rc.1); clear h4 hk4)
   | (go_at_call 24; (with_reducible refine HT1.out.mono ?_); rintro e w2 ⟨rfl, hk2, hr2, h2⟩; have HT2 := hid h2; have HK2 := hid hk2; have HX2 := hid ((hk2 _ (.inr HN.out)).trans HX1.out); have HA2 := hid (ac15 (s := s) (rhb := rhb) HX2.out hr2.1); clear h2 hk2 hr2))
 all_goals
  go_wp2
  go_ret
  exact ⟨rfl, H4.out.weak (fun k q => .inl q), fun k q => (HK4.out k (.inl q)).trans ((HK2.out k (.inl q)).trans (HS0.out k q))⟩
theorem done_6 (hT0 : CX.TabG W) (ht : t ≤ 110) (h : HSt W s hb rhb t S w) (o i p j ca cb cx cd ce cf cg ch m : Int) (u : Nat) (ho : InS o) (hi : InS i) (hp : InS p) (hj : InS j) (he : ce ≤ 9223372036854775807) (hu : u < 2 ^ 64) :
  Calls Tryz.prog 10 #[.pointer (some ⟨hb, 0, none⟩), .pointer (some ⟨rhb, 0, none⟩), .agg #[.int .i64 6, .int .i64 o, .int .i64 i, .int .i64 p, .int .i64 j, .int .i64 ca, .int .i64 cb, .int .i64 cx, .int .u64 cd, .int .i64 ce, .int .i64 cf, .int .i64 cg, .int .i64 ch, .int .i64 m, .int .u64 u]] w fun e w' => e = .returned (.bool true) ∧ HSt W s hb rhb (t + 1) S w' ∧ SameK S w w' := by
 obtain ⟨wA, hwA⟩ : ∃ y, y = w.alloc (.cells #[.int .i64 6, .int .i64 o, .int .i64 i, .int .i64 p, .int .i64 j, .int .i64 ca, .int .i64 cb, .int .i64 cx, .int .u64 cd, .int .i64 ce, .int .i64 cf, .int .i64 cg, .int .i64 ch, .int .i64 m, .int .u64 u] 35) := ⟨_, rfl⟩
 have hb1 : Below w.heap.size w wA := hwA ▸ bal (Below.refl _ _) _
 have hx1 : wA.heap[w.heap.size]? = some (.cells #[.int .i64 6, .int .i64 o, .int .i64 i, .int .i64 p, .int .i64 j, .int .i64 ca, .int .i64 cb, .int .i64 cx, .int .u64 cd, .int .i64 ce, .int .i64 cf, .int .i64 cg, .int .i64 ch, .int .i64 m, .int .u64 u] 35 (0, 0)) := by rw [hwA]; exact heap_alloc_new w _
 have hf := (h.fresh hb1)
 have hfd := hf.call (show Below wA.heap.size wA wA.drew from (Below.refl _ _).drew)
 obtain ⟨k, hk⟩ := act_swap hT0 ht hfd o i p j ho hi hp hj
 have HT1 := hid hk
 have HX1 := hid hx1
 have HN : Hid (New w wA w.heap.size) := hid ⟨Nat.le_refl _, (ags hx1).1⟩
 have HA := hid (ac15 (s := s) (rhb := rhb) hx1 hf.rc.1)
 have HAd : Hid (wA.drew.cell? ⟨w.heap.size, 1, none⟩ = some (.int .i64 o) ∧ wA.drew.cell? ⟨w.heap.size, 2, none⟩ = some (.int .i64 i) ∧ wA.drew.cell? ⟨w.heap.size, 3, none⟩ = some (.int .i64 p) ∧ wA.drew.cell? ⟨w.heap.size, 4, none⟩ = some (.int .i64 j) ∧ wA.drew.cell? ⟨w.heap.size, 5, none⟩ = some (.int .i64 ca) ∧ wA.drew.cell? ⟨w.heap.size, 6, none⟩ = some (.int .i64 cb) ∧ wA.drew.cell? ⟨w.heap.size, 7, none⟩ = some (.int .i64 cx) ∧ wA.drew.cell? ⟨w.heap.size, 8, none⟩ = some (.int .u64 cd) ∧ wA.drew.cell? ⟨w.heap.size, 9, none⟩ = some (.int .i64 ce) ∧ wA.drew.cell? ⟨w.heap.size, 10, none⟩ = some (.int .i64 cf) ∧ wA.drew.cell? ⟨w.heap.size, 11, none⟩ = some (.int .i64 cg) ∧ wA.drew.cell? ⟨w.heap.size, 12, none⟩ = some (.int .i64 ch) ∧ wA.drew.cell? ⟨w.heap.size, 13, none⟩ = some (.int .i64 m) ∧ wA.drew.cell? ⟨w.heap.size, 14, none⟩ = some (.int .u64 u) ∧ wA.drew.cell? ⟨rhb, 0, none⟩ = some (.pointer (some ⟨s.srb, 0, none⟩))) := hid HA.out
 have HS0 : Hid (SameK S w wA) := hid (fun k q => hb1.block k (h.lt q))
 have HW := hid hwA
 clear hk hx1 hf hfd hwA hb1 h hT0 ho hi hp hj he hu ht
 go_enter Tryz.func10, Tryz.ntmps10
 go_upto_region 15 with fail
 rw [show w.alloc (.cells #[.int .i64 6, .int .i64 o, .int .i64 i, .int .i64 p, .int .i64 j, .int .i64 ca, .int .i64 cb, .int .i64 cx, .int .u64 cd, .int .i64 ce, .int .i64 cf, .int .i64 cg, .int .i64 ch, .int .i64 m, .int .u64 u] 35) = wA from HW.out.symm]
 go_region_held3 (fun w' => w'.cell? ⟨w.heap.size, 1, none⟩ = some (.int .i64 o) ∧ w'.cell? ⟨w.heap.size, 2, none⟩ = some (.int .i64 i) ∧ w'.cell? ⟨w.heap.size, 3, none⟩ = some (.int .i64 p) ∧ w'.cell? ⟨w.heap.size, 4, none⟩ = some (.int .i64 j) ∧ w'.cell? ⟨w.heap.size, 5, none⟩ = some (.int .i64 ca) ∧ w'.cell? ⟨w.heap.size, 6, none⟩ = some (.int .i64 cb) ∧ w'.cell? ⟨w.heap.size, 7, none⟩ = some (.int .i64 cx) ∧ w'.cell? ⟨w.heap.size, 8, none⟩ = some (.int .u64 cd) ∧ w'.cell? ⟨w.heap.size, 9, none⟩ = some (.int .i64 ce) ∧ w'.cell? ⟨w.heap.size, 10, none⟩ = some (.int .i64 cf) ∧ w'.cell? ⟨w.heap.size, 11, none⟩ = some (.int .i64 cg) ∧ w'.cell? ⟨w.heap.size, 12, none⟩ = some (.int .i64 ch) ∧ w'.cell? ⟨w.heap.size, 13, none⟩ = some (.int .i64 m) ∧ w'.cell? ⟨w.heap.size, 14, none⟩ = some (.int .u64 u) ∧ w'.cell? ⟨rhb, 0, none⟩ = some (.pointer (some ⟨s.srb, 0, none⟩)))
  (first | (with_reducible exact HA.out) | (with_reducible exact HAd.out) | (with_reducible exact HA2.out) | (with_reducible exact HA4.out))
  (first
   | (go_at_call 33; (with_reducible refine (TabS.num_s _ _).mono ?_); rintro e w3 ⟨rfl, rfl⟩)
   | (go_at_call 43; (with_reducible refine HT2.out.mono ?_); rintro e w4 ⟨rfl, h4, hk4⟩; have H4 := hid h4; have HK4 := hid hk4; have HA4 := hid (ac15 (s := s) (rhb := rhb) ((hk4 _ (.inr HN.out)).trans HX2.out) h4.rc.1); clear h4 hk4)
   | (go_at_call 42; (with_reducible refine HT1.out.mono ?_); rintro e w2 ⟨rfl, hk2, hr2, h2⟩; have HT2 := hid h2; have HK2 := hid hk2; have HX2 := hid ((hk2 _ (.inr HN.out)).trans HX1.out); have HA2 := hid (ac15 (s := s) (rhb := rhb) HX2.out hr2.1); clear h2 hk2 hr2))
 all_goals
  go_wp2
  go_ret
  exact ⟨rfl, H4.out.weak (fun k q => .inl q), fun k q => (HK4.out k (.inl q)).trans ((HK2.out k (.inl q)).trans (HS0.out k q))⟩
theorem done_8 (hT0 : CX.TabG W) (ht : t ≤ 110) (h : HSt W s hb rhb t S w) (o i p j ca cb cx cd ce cf cg ch m : Int) (u : Nat) (ho : InS o) (hi : InS i) (hp : InS p) (hj : InS j) (he : ce ≤ 9223372036854775807) (hu : u < 2 ^ 64) :
  Calls Tryz.prog 10 #[.pointer (some ⟨hb, 0, none⟩), .pointer (some ⟨rhb, 0, none⟩), .agg #[.int .i64 8, .int .i64 o, .int .i64 i, .int .i64 p, .int .i64 j, .int .i64 ca, .int .i64 cb, .int .i64 cx, .int .u64 cd, .int .i64 ce, .int .i64 cf, .int .i64 cg, .int .i64 ch, .int .i64 m, .int .u64 u]] w fun e w' => e = .returned (.bool true) ∧ HSt W s hb rhb (t + 1) S w' ∧ SameK S w w' := by
 obtain ⟨wA, hwA⟩ : ∃ y, y = w.alloc (.cells #[.int .i64 8, .int .i64 o, .int .i64 i, .int .i64 p, .int .i64 j, .int .i64 ca, .int .i64 cb, .int .i64 cx, .int .u64 cd, .int .i64 ce, .int .i64 cf, .int .i64 cg, .int .i64 ch, .int .i64 m, .int .u64 u] 35) := ⟨_, rfl⟩
 have hb1 : Below w.heap.size w wA := hwA ▸ bal (Below.refl _ _) _
 have hx1 : wA.heap[w.heap.size]? = some (.cells #[.int .i64 8, .int .i64 o, .int .i64 i, .int .i64 p, .int .i64 j, .int .i64 ca, .int .i64 cb, .int .i64 cx, .int .u64 cd, .int .i64 ce, .int .i64 cf, .int .i64 cg, .int .i64 ch, .int .i64 m, .int .u64 u] 35 (0, 0)) := by rw [hwA]; exact heap_alloc_new w _
 have hf := (h.fresh hb1)
 have hfd := hf.call (show Below wA.heap.size wA wA.drew from (Below.refl _ _).drew)
 obtain ⟨k, hk⟩ := act_add ht hfd o m
 have HT1 := hid hk
 have HX1 := hid hx1
 have HN : Hid (New w wA w.heap.size) := hid ⟨Nat.le_refl _, (ags hx1).1⟩
 have HA := hid (ac15 (s := s) (rhb := rhb) hx1 hf.rc.1)
 have HAd : Hid (wA.drew.cell? ⟨w.heap.size, 1, none⟩ = some (.int .i64 o) ∧ wA.drew.cell? ⟨w.heap.size, 2, none⟩ = some (.int .i64 i) ∧ wA.drew.cell? ⟨w.heap.size, 3, none⟩ = some (.int .i64 p) ∧ wA.drew.cell? ⟨w.heap.size, 4, none⟩ = some (.int .i64 j) ∧ wA.drew.cell? ⟨w.heap.size, 5, none⟩ = some (.int .i64 ca) ∧ wA.drew.cell? ⟨w.heap.size, 6, none⟩ = some (.int .i64 cb) ∧ wA.drew.cell? ⟨w.heap.size, 7, none⟩ = some (.int .i64 cx) ∧ wA.drew.cell? ⟨w.heap.size, 8, none⟩ = some (.int .u64 cd) ∧ wA.drew.cell? ⟨w.heap.size, 9, none⟩ = some (.int .i64 ce) ∧ wA.drew.cell? ⟨w.heap.size, 10, none⟩ = some (.int .i64 cf) ∧ wA.drew.cell? ⟨w.heap.size, 11, none⟩ = some (.int .i64 cg) ∧ wA.drew.cell? ⟨w.heap.size, 12, none⟩ = some (.int .i64 ch) ∧ wA.drew.cell? ⟨w.heap.size, 13, none⟩ = some (.int .i64 m) ∧ wA.drew.cell? ⟨w.heap.size, 14, none⟩ = some (.int .u64 u) ∧ wA.drew.cell? ⟨rhb, 0, none⟩ = some (.pointer (some ⟨s.srb, 0, none⟩))) := hid HA.out
 have HS0 : Hid (SameK S w wA) := hid (fun k q => hb1.block k (h.lt q))
 have HW := hid hwA
 clear hk hx1 hf hfd hwA hb1 h hT0 ho hi hp hj he hu ht
 go_enter Tryz.func10, Tryz.ntmps10
 go_upto_region 21 with fail
 rw [show w.alloc (.cells #[.int .i64 8, .int .i64 o, .int .i64 i, .int .i64 p, .int .i64 j, .int .i64 ca, .int .i64 cb, .int .i64 cx, .int .u64 cd, .int .i64 ce, .int .i64 cf, .int .i64 cg, .int .i64 ch, .int .i64 m, .int .u64 u] 35) = wA from HW.out.symm]
 go_region_held3 (fun w' => w'.cell? ⟨w.heap.size, 1, none⟩ = some (.int .i64 o) ∧ w'.cell? ⟨w.heap.size, 2, none⟩ = some (.int .i64 i) ∧ w'.cell? ⟨w.heap.size, 3, none⟩ = some (.int .i64 p) ∧ w'.cell? ⟨w.heap.size, 4, none⟩ = some (.int .i64 j) ∧ w'.cell? ⟨w.heap.size, 5, none⟩ = some (.int .i64 ca) ∧ w'.cell? ⟨w.heap.size, 6, none⟩ = some (.int .i64 cb) ∧ w'.cell? ⟨w.heap.size, 7, none⟩ = some (.int .i64 cx) ∧ w'.cell? ⟨w.heap.size, 8, none⟩ = some (.int .u64 cd) ∧ w'.cell? ⟨w.heap.size, 9, none⟩ = some (.int .i64 ce) ∧ w'.cell? ⟨w.heap.size, 10, none⟩ = some (.int .i64 cf) ∧ w'.cell? ⟨w.heap.size, 11, none⟩ = some (.int .i64 cg) ∧ w'.cell? ⟨w.heap.size, 12, none⟩ = some (.int .i64 ch) ∧ w'.cell? ⟨w.heap.size, 13, none⟩ = some (.int .i64 m) ∧ w'.cell? ⟨w.heap.size, 14, none⟩ = some (.int .u64 u) ∧ w'.cell? ⟨rhb, 0, none⟩ = some (.pointer (some ⟨s.srb, 0, none⟩)))
  (first | (with_reducible exact HA.out) | (with_reducible exact HAd.out) | (with_reducible exact HA2.out) | (with_reducible exact HA4.out))
  (first
   | (go_at_call 33; (with_reducible refine (TabS.num_s _ _).mono ?_); rintro e w3 ⟨rfl, rfl⟩)
   | (go_at_call 32; (with_reducible refine HT2.out.mono ?_); rintro e w4 ⟨rfl, h4, hk4⟩; have H4 := hid h4; have HK4 := hid hk4; have HA4 := hid (ac15 (s := s) (rhb := rhb) ((hk4 _ (.inr HN.out)).trans HX2.out) h4.rc.1); clear h4 hk4)
   | (go_at_call 29; (with_reducible refine HT1.out.mono ?_); rintro e w2 ⟨rfl, hk2, hr2, h2⟩; have HT2 := hid h2; have HK2 := hid hk2; have HX2 := hid ((hk2 _ (.inr HN.out)).trans HX1.out); have HA2 := hid (ac15 (s := s) (rhb := rhb) HX2.out hr2.1); clear h2 hk2 hr2))
 all_goals
  go_wp2
  go_ret
  exact ⟨rfl, H4.out.weak (fun k q => .inl q), fun k q => (HK4.out k (.inl q)).trans ((HK2.out k (.inl q)).trans (HS0.out k q))⟩
theorem done_9 (hT0 : CX.TabG W) (ht : t ≤ 110) (h : HSt W s hb rhb t S w) (o i p j ca cb cx cd ce cf cg ch m : Int) (u : Nat) (ho : InS o) (hi : InS i) (hp : InS p) (hj : InS j) (he : ce ≤ 9223372036854775807) (hu : u < 2 ^ 64) :
  Calls Tryz.prog 10 #[.pointer (some ⟨hb, 0, none⟩), .pointer (some ⟨rhb, 0, none⟩), .agg #[.int .i64 9, .int .i64 o, .int .i64 i, .int .i64 p, .int .i64 j, .int .i64 ca, .int .i64 cb, .int .i64 cx, .int .u64 cd, .int .i64 ce, .int .i64 cf, .int .i64 cg, .int .i64 ch, .int .i64 m, .int .u64 u]] w fun e w' => e = .returned (.bool true) ∧ HSt W s hb rhb (t + 1) S w' ∧ SameK S w w' := by
 obtain ⟨wA, hwA⟩ : ∃ y, y = w.alloc (.cells #[.int .i64 9, .int .i64 o, .int .i64 i, .int .i64 p, .int .i64 j, .int .i64 ca, .int .i64 cb, .int .i64 cx, .int .u64 cd, .int .i64 ce, .int .i64 cf, .int .i64 cg, .int .i64 ch, .int .i64 m, .int .u64 u] 35) := ⟨_, rfl⟩
 have hb1 : Below w.heap.size w wA := hwA ▸ bal (Below.refl _ _) _
 have hx1 : wA.heap[w.heap.size]? = some (.cells #[.int .i64 9, .int .i64 o, .int .i64 i, .int .i64 p, .int .i64 j, .int .i64 ca, .int .i64 cb, .int .i64 cx, .int .u64 cd, .int .i64 ce, .int .i64 cf, .int .i64 cg, .int .i64 ch, .int .i64 m, .int .u64 u] 35 (0, 0)) := by rw [hwA]; exact heap_alloc_new w _
 have hf := (h.fresh hb1)
 have hfd := hf.call (show Below wA.heap.size wA wA.drew from (Below.refl _ _).drew)
 obtain ⟨k, hk⟩ := act_drop ht hfd o
 have HT1 := hid hk
 have HX1 := hid hx1
 have HN : Hid (New w wA w.heap.size) := hid ⟨Nat.le_refl _, (ags hx1).1⟩
 have HA := hid (ac15 (s := s) (rhb := rhb) hx1 hf.rc.1)
 have HAd : Hid (wA.drew.cell? ⟨w.heap.size, 1, none⟩ = some (.int .i64 o) ∧ wA.drew.cell? ⟨w.heap.size, 2, none⟩ = some (.int .i64 i) ∧ wA.drew.cell? ⟨w.heap.size, 3, none⟩ = some (.int .i64 p) ∧ wA.drew.cell? ⟨w.heap.size, 4, none⟩ = some (.int .i64 j) ∧ wA.drew.cell? ⟨w.heap.size, 5, none⟩ = some (.int .i64 ca) ∧ wA.drew.cell? ⟨w.heap.size, 6, none⟩ = some (.int .i64 cb) ∧ wA.drew.cell? ⟨w.heap.size, 7, none⟩ = some (.int .i64 cx) ∧ wA.drew.cell? ⟨w.heap.size, 8, none⟩ = some (.int .u64 cd) ∧ wA.drew.cell? ⟨w.heap.size, 9, none⟩ = some (.int .i64 ce) ∧ wA.drew.cell? ⟨w.heap.size, 10, none⟩ = some (.int .i64 cf) ∧ wA.drew.cell? ⟨w.heap.size, 11, none⟩ = some (.int .i64 cg) ∧ wA.drew.cell? ⟨w.heap.size, 12, none⟩ = some (.int .i64 ch) ∧ wA.drew.cell? ⟨w.heap.size, 13, none⟩ = some (.int .i64 m) ∧ wA.drew.cell? ⟨w.heap.size, 14, none⟩ = some (.int .u64 u) ∧ wA.drew.cell? ⟨rhb, 0, none⟩ = some (.pointer (some ⟨s.srb, 0, none⟩))) := hid HA.out
 have HS0 : Hid (SameK S w wA) := hid (fun k q => hb1.block k (h.lt q))
 have HW := hid hwA
 clear hk hx1 hf hfd hwA hb1 h hT0 ho hi hp hj he hu ht
 go_enter Tryz.func10, Tryz.ntmps10
 go_upto_region 23 with fail
 rw [show w.alloc (.cells #[.int .i64 9, .int .i64 o, .int .i64 i, .int .i64 p, .int .i64 j, .int .i64 ca, .int .i64 cb, .int .i64 cx, .int .u64 cd, .int .i64 ce, .int .i64 cf, .int .i64 cg, .int .i64 ch, .int .i64 m, .int .u64 u] 35) = wA from HW.out.symm]
 go_region_held3 (fun w' => w'.cell? ⟨w.heap.size, 1, none⟩ = some (.int .i64 o) ∧ w'.cell? ⟨w.heap.size, 2, none⟩ = some (.int .i64 i) ∧ w'.cell? ⟨w.heap.size, 3, none⟩ = some (.int .i64 p) ∧ w'.cell? ⟨w.heap.size, 4, none⟩ = some (.int .i64 j) ∧ w'.cell? ⟨w.heap.size, 5, none⟩ = some (.int .i64 ca) ∧ w'.cell? ⟨w.heap.size, 6, none⟩ = some (.int .i64 cb) ∧ w'.cell? ⟨w.heap.size, 7, none⟩ = some (.int .i64 cx) ∧ w'.cell? ⟨w.heap.size, 8, none⟩ = some (.int .u64 cd) ∧ w'.cell? ⟨w.heap.size, 9, none⟩ = some (.int .i64 ce) ∧ w'.cell? ⟨w.heap.size, 10, none⟩ = some (.int .i64 cf) ∧ w'.cell? ⟨w.heap.size, 11, none⟩ = some (.int .i64 cg) ∧ w'.cell? ⟨w.heap.size, 12, none⟩ = some (.int .i64 ch) ∧ w'.cell? ⟨w.heap.size, 13, none⟩ = some (.int .i64 m) ∧ w'.cell? ⟨w.heap.size, 14, none⟩ = some (.int .u64 u) ∧ w'.cell? ⟨rhb, 0, none⟩ = some (.pointer (some ⟨s.srb, 0, none⟩)))
  (first | (with_reducible exact HA.out) | (with_reducible exact HAd.out) | (with_reducible exact HA2.out) | (with_reducible exact HA4.out))
  (first
   | (go_at_call 33; (with_reducible refine (TabS.num_s _ _).mono ?_); rintro e w3 ⟨rfl, rfl⟩)
   | (go_at_call 46; (with_reducible refine HT2.out.mono ?_); rintro e w4 ⟨rfl, h4, hk4⟩; have H4 := hid h4; have HK4 := hid hk4; have HA4 := hid (ac15 (s := s) (rhb := rhb) ((hk4 _ (.inr HN.out)).trans HX2.out) h4.rc.1); clear h4 hk4)
   | (go_at_call 45; (with_reducible refine HT1.out.mono ?_); rintro e w2 ⟨rfl, hk2, hr2, h2⟩; have HT2 := hid h2; have HK2 := hid hk2; have HX2 := hid ((hk2 _ (.inr HN.out)).trans HX1.out); have HA2 := hid (ac15 (s := s) (rhb := rhb) HX2.out hr2.1); clear h2 hk2 hr2))
 all_goals
  go_wp2
  go_ret
  exact ⟨rfl, H4.out.weak (fun k q => .inl q), fun k q => (HK4.out k (.inl q)).trans ((HK2.out k (.inl q)).trans (HS0.out k q))⟩
end HdS
end
end Go.Proofs.YtchjfeafkmpmbaaGreatDoor
