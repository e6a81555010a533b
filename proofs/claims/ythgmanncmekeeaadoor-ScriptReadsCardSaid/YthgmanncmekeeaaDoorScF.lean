/- chapter 35: an event's line, by the package. -/
import Derived.Test.YthgmanncmekeeaaDoorScI
import Derived.RangeFuncNested
import Derived.Sort.CutIn
import Derived.Stop.RegionWithIn
import Derived.Lib.ConvBytes
namespace Go.Proofs.YthgmanncmekeeaaDoor
set_option linter.unusedVariables false
set_option linter.unusedSimpArgs false
open Go.ChangeShapes Go.WideShapes Go.ChangeAt Go.RowKit Go.Shelf
attribute [-go_sem] binOp_string_add binOp_string_eql binOp_string_neq run_index_string
attribute [local go_sem] Sc.bs_size
attribute [local go_sem] Oper.semAt_some
attribute [-go_sem] Builtin.append_
namespace Sc
theorem nm_len (k : Int) : (nm k).length ≤ 8 := by
  unfold nm
  repeat' split
  all_goals decide
theorem places_len (k : Int) : 0 < (places k).length ∧ (places k).length ≤ 8 := by
  unfold places
  repeat' split
  all_goals decide
def evV (c : Ev) : Value := .agg (evA c)
set_option maxRecDepth 100000 in
set_option maxHeartbeats 1000000 in
theorem line_none (c : Ev) (w : World) (h : nm (c 0) = []) : Calls Tryd.prog 12 #[evV c] w fun e w' => e = .returned (.tuple #[.string (bs []), .int .i64 2]) ∧ Below w.heap.size w w' := by
  have HN : Hid (∀ v, Calls Tryd.prog 22 #[.int .i64 (c 0)] v fun e w' => e = .returned (.string (bs [])) ∧ v = w') := Lib.hid (fun v => by have := nameOf_any (c 0) v; rw [h] at this; exact this)
  have he : ∀ w, (binOp .eql 9 (.string (bs [])) (.string { data := #[] })).run Tryd.prog w = .ok (.bool true) w := fun w => eql_bs [] [] w
  unfold evV evA
  go_enter Tryd.func12, Tryd.ntmps12
  go_wp2_with (go_at_call 22; (with_reducible refine (HN.out _).mono ?_); rintro e w1 ⟨rfl, rfl⟩)
  exact bodyPost_ret (v := .tuple #[.string (bs []), .int .i64 2]) (by simp [results, Tryd.results12, go_sem]; rfl) rfl ⟨rfl, bal (bal (bal (Below.refl _ _) _) _) _⟩
theorem calls_round {l n : Nat} {P : Program} {f : Nat} {args : Array Value} {w : World} {R : Ending → World → Prop} (h : Calls P f args w R) : CallsIn (Fence.wide.inRound l) n P f args w R := callsIn_wide.2 h
/-- The text behind so many places. -/
def txt (c : Ev) (ps : List (Bool × Nat)) (pre : List (Fin ps.length)) : Bs := nm (c 0) ++ (pre.map (fun x => (32 : UInt8) :: Lib.decDigits (c (plAt ps x).2).toNat)).flatten
theorem txt_snoc (c : Ev) (ps : List (Bool × Nat)) (pre : List (Fin ps.length)) (x : Fin ps.length) : txt c ps (pre ++ [x]) = (txt c ps pre ++ [32]) ++ Lib.decDigits (c (plAt ps x).2).toNat := by
  unfold txt; simp
def farX (c : Ev) (ps : List (Bool × Nat)) (x : Fin ps.length) : Bool := farP (plAt ps x).1 (c (plAt ps x).2)
theorem finRange_map {α β : Type} (l : List α) (f : α → β) : (List.finRange l.length).map (fun x => f (l[x.1]'x.2)) = l.map f := by
  apply List.ext_getElem
  · simp
  · intro i h1 h2
    simp
theorem fstP_all (m : Nat) : fstP m m = List.finRange m := by
  unfold fstP
  exact List.take_of_length_le (by simp)
theorem line_full (c : Ev) (h : nm (c 0) ≠ []) (hno : ∀ x ∈ fstP (places (c 0)).length (places (c 0)).length, farX c (places (c 0)) x = false) : lineE c = (txt c (places (c 0)) (fstP (places (c 0)).length (places (c 0)).length), 0) := by
  have hf : ∀ p ∈ places (c 0), farP p.1 (c p.2) = false := by
    intro p hp
    obtain ⟨i, hi, rfl⟩ := List.getElem_of_mem hp
    exact hno ⟨i, hi⟩ (by rw [fstP_all]; exact List.mem_finRange _)
  rw [eq_line h hf, jn_flat]
  unfold txt wordsOf
  rw [fstP_all, List.map_map]
  congr 2
  have := finRange_map (places (c 0)) (fun p => (32 : UInt8) :: Lib.decDigits (c p.2).toNat)
  rw [this]
  rfl
theorem line_bad (c : Ev) (h : nm (c 0) ≠ []) (hy : ∃ p ∈ places (c 0), farP p.1 (c p.2) = true) : lineE c = ([], 3) := by
  unfold lineE
  rw [if_neg h]
  rcases lineR_err c (places (c 0)) (nm (c 0)) with e | e
  · obtain ⟨p, hp, hb⟩ := hy
    have := lineR_ok c (places (c 0)) (nm (c 0)) (lineR c (nm (c 0)) (places (c 0))).1 (by rw [← e]) p hp
    rw [hb] at this
    cases this
  · exact e
structure LineI (wA : World) (b : Nat) (c : Ev) (ps : List (Bool × Nat)) (pre : List (Fin ps.length)) (W : World) : Prop where
  lb : ∃ v, LB W b v (txt c ps pre)
  tn : Tn b wA W
  no : ∀ x ∈ pre, farX c ps x = false
  len : pre.length ≤ 100 → (txt c ps pre).length ≤ 8 + 21 * pre.length
structure LineX (wA : World) (b : Nat) (c : Ev) (ps : List (Bool × Nat)) (cd : Code) (pre : List (Fin ps.length)) (W : World) : Prop where
  hcd : cd = .ret
  yes : ∃ x ∈ pre, farX c ps x = true
  s : W.heap[b + 1]? = some (.cells #[.string { data := #[] }] 9 (0, 0))
  i : W.heap[b + 2]? = some (.cells #[.int .i64 3] 24 (0, 0))
  bel : Below b wA W
theorem grown_blk {A C : World} {row : Option Nat} {b B : Nat} (hg : A.grownBy C row) (hr : ∀ r, row = some r → B ≤ r ∧ ∃ o : Obj, A.heap[r]? = some o ∧ o.isCells = false) (hb : b < A.heap.size) (hB : b < B) : C.heap[b]? = A.heap[b]? :=
  hg.block b hb (fun e => by have := (hr b e.symm).1; omega)
theorem LineI.from {wA : World} {b : Nat} {c : Ev} {ps : List (Bool × Nat)} (hb : b + 4 < wA.heap.size) : OwnFrom wA.heap.size (LineI wA b c ps) := by
  intro s A C row h hg hr
  obtain ⟨v, hl⟩ := h.lb
  have hsz : wA.heap.size ≤ A.heap.size := h.tn.bel.size
  refine ⟨⟨v, (grown_blk hg hr hl.lt hb).trans hl.box, hl.row.kept fun g hh => hg.block g (hl.row.lt hh).2 (fun e => ?_)⟩, ⟨?_, ?_⟩, h.no, h.len⟩
  · obtain ⟨-, o, ho, hc⟩ := hr g e.symm
    obtain ⟨cs, z, q⟩ := hl.row.ty hh
    rw [q] at ho
    cases ho
    cases hc
  · intro k o hk h1 h2
    have hkl : k < wA.heap.size := (Array.getElem?_eq_some_iff.1 hk).1
    exact (grown_blk hg hr (Nat.lt_of_lt_of_le hkl hsz) hkl).trans (h.tn.kept k o hk h1 h2)
  · exact h.tn.bel.grown hg (by omega) (fun r e => by have := (hr r e).1; omega)
theorem LineX.from {wA : World} {b : Nat} {c : Ev} {ps : List (Bool × Nat)} (hb : b + 4 < wA.heap.size) (cd : Code) : OwnFrom wA.heap.size (LineX wA b c ps cd) := by
  intro s A C row h hg hr
  have hsz := h.bel.size
  exact ⟨h.hcd, h.yes, (grown_blk hg hr (by omega) (by omega)).trans h.s, (grown_blk hg hr (by omega) (by omega)).trans h.i, h.bel.grown hg (by omega) (fun r e => by have := (hr r e).1; omega)⟩
theorem heap_putObj_ne {W : World} {l k : Nat} {o : Obj} (h : k ≠ l) : (W.putObj l o).heap[k]? = W.heap[k]? := by
  simp [World.putObj, Array.getElem?_setIfInBounds, h.symm]
set_option maxRecDepth 100000 in
set_option maxHeartbeats 2000000 in
theorem line_in (c : Ev) (w : World) (hc : EvOk c) (hc6 : ∀ i, c i < 18446744073709551616) (h : nm (c 0) ≠ []) (hE : EnvAt w) : CallsIn Fence.wide 3 Tryd.prog 12 #[evV c] w fun e w' => e = .returned (.tuple #[.string (bs (lineE c).1), .int .i64 (lineE c).2]) ∧ Below w.heap.size w w' := by
  have HN : Hid (∀ v, Calls Tryd.prog 22 #[.int .i64 (c 0)] v fun e w' => e = .returned (.string (bs (nm (c 0)))) ∧ v = w') := Lib.hid (fun v => nameOf_any (c 0) v)
  have he : ∀ w, (binOp .eql 9 (.string (bs (nm (c 0)))) (.string { data := #[] })).run Tryd.prog w = .ok (.bool false) w := fun w => by have := eql_bs (nm (c 0)) [] w; rw [decide_eq_false h] at this; exact this
  have HNUM := Lib.hid (fun (v : World) (q : Nat) (hv : EvAt v q c) => numbers_any v q c hv)
  have hnl : (nm (c 0)).length ≤ 8 := nm_len _
  have HNL := Lib.hid hnl
  have hc0 : (evA c)[0]? = some (.int .i64 (c 0)) := rfl
  refine callsIn_of_wp_marks Tryd.func12 rfl trivial ?_ rfl
  simp only [Tryd.ntmps12, List.size_toArray, List.length_cons, List.length_nil, Nat.reduceAdd, Nat.reduceSub, Array.replicate_succ, Array.replicate_zero, List.push_toArray, List.append_toArray, List.nil_append, List.cons_append]
  unfold evV
  gi_upto_region 4 with (refine ⟨trivial, ?_⟩; first
    | (gi_at_call 22; refine (callsIn_wide.2 (HN.out _)).mono ?_; rintro e w1 ⟨rfl, rfl⟩))
  obtain ⟨w3, hw3⟩ : ∃ y, y = ((w.alloc (.cells (evA c) 36)).alloc (.cells #[.string { data := #[] }] 9)).alloc (.cells #[.int .i64 0] 24) := ⟨_, rfl⟩
  rw [← hw3]
  have hb3 : Below w.heap.size w w3 := hw3 ▸ bal (bal (bal (Below.refl _ _) _) _) _
  have hz3 : w3.heap.size = w.heap.size + 3 := by rw [hw3]; simp
  have ev3 : EvAt w3 w.heap.size c := by rw [hw3]; exact (Below.heap_alloc _ _ _ (by simp; omega)).trans ((Below.heap_alloc _ _ _ (by simp)).trans (World.alloc_heap_new w _))
  have s3 : w3.heap[w.heap.size + 1]? = some (.cells #[.string { data := #[] }] 9 (0, 0)) := by
    have := World.alloc_heap_new (w.alloc (.cells (evA c) 36)) (.cells #[.string { data := #[] }] 9)
    rw [World.size_alloc] at this
    rw [hw3]; exact (Below.heap_alloc _ _ _ (by simp)).trans this
  have i3 : w3.heap[w.heap.size + 2]? = some (.cells #[.int .i64 0] 24 (0, 0)) := by
    have := World.alloc_heap_new ((w.alloc (.cells (evA c) 36)).alloc (.cells #[.string { data := #[] }] 9)) (.cells #[.int .i64 0] 24)
    rw [World.size_alloc, World.size_alloc] at this
    rw [hw3]; exact this
  obtain ⟨hcv, hrow⟩ := rowM_conv w3 (nm (c 0)) (by omega)
  generalize (grownCap w3 (nm (c 0)).length 0 5) = cap3 at *
  have hb4 := Lib.bytesWorld_below w3 5 (bs (nm (c 0)))
  have hz4 := Lib.bytesWorld_size w3 5 (bs (nm (c 0)))
  obtain ⟨w4, hw4⟩ : ∃ y, y = Lib.bytesWorld w3 5 (bs (nm (c 0))) := ⟨_, rfl⟩
  rw [← hw4] at hcv hrow hb4 hz4
  clear hw3 hw4 hc0 HN
  gi_upto_region 5 with fail
  obtain ⟨N, hN⟩ : ∃ N, N = w.heap.size := ⟨_, rfl⟩
  rw [← hN] at hb3 hz3 ev3 s3 i3 ⊢
  have HNW := Lib.hid hN
  clear hN
  obtain ⟨w5, hw5⟩ : ∃ y, y = w4.alloc (.cells #[.slice (some ⟨N + 3, 0, none⟩) (nm (c 0)).length cap3] 48) := ⟨_, rfl⟩
  rw [← hw5]
  rw [hz3] at hz4 hrow
  have hb5 : Below w4.heap.size w4 w5 := hw5 ▸ bal (Below.refl _ _) _
  have hz5 : w5.heap.size = N + 5 := by rw [hw5, World.size_alloc, hz4]
  have x5 : w5.heap[N + 4]? = some (.cells #[.slice (some ⟨N + 3, 0, none⟩) (nm (c 0)).length cap3] 48 (0, 0)) := by
    have := World.alloc_heap_new w4 (.cells #[.slice (some ⟨N + 3, 0, none⟩) (nm (c 0)).length cap3] 48)
    rw [hz4] at this
    rw [hw5]; exact this
  have hb35 : Below w3.heap.size w3 w5 := bgo hb4 hb5
  have row5 : RowM w5 (N + 3) (.slice (some ⟨N + 3, 0, none⟩) (nm (c 0)).length cap3) (nm (c 0)).length (Lib.byteCells (nm (c 0))) := hrow.kept fun g hg => hb5.block g (hrow.lt hg).2
  have ev5 : EvAt w5 N c := (hb35.block _ (by omega)).trans ev3
  have s5 := (hb35.block _ (by omega)).trans s3
  have i5 := (hb35.block _ (by omega)).trans i3
  have HB5 := Lib.hid (hb3.trans (hb35.mono (by omega)))
  have HE5 := Lib.hid ev5
  have HS5 := Lib.hid s5
  have HI5 := Lib.hid i5
  have HX5 := Lib.hid x5
  have HR5 := Lib.hid row5
  clear hw5 hb3 ev3 s3 i3 hrow hb4 hz4 hcv hb5 hb35 row5 ev5 s5 i5 x5 hz3
  have HC := Lib.hid (HNUM.out w5 N HE5.out)
  gi_wp2_with (refine ⟨trivial, ?_⟩; first
    | (gi_at_call 23; with_reducible refine (callsIn_wide.2 HC.out).mono ?_; rintro e wA ⟨q, v, rfl, hna, hbA⟩))
  obtain ⟨ps, hps⟩ : ∃ ps, ps = places (c 0) := ⟨_, rfl⟩
  rw [← hps] at hna
  have hpl0 : 0 < ps.length ∧ ps.length ≤ 8 := by rw [hps]; exact places_len _
  have hpok : ∀ p ∈ ps, PlOk p := by rw [hps]; exact places_pl (c 0)
  obtain ⟨g, cp, rfl, hg0, hg1, ⟨gcs, hgb⟩, hgc⟩ := hna.form hpl0.1
  have hbA2 : Below N w wA := HB5.out.trans (hbA.mono (by omega))
  have hzA : N + 5 ≤ wA.heap.size := by have := hbA.size; omega
  have hsc : wA.cell? ⟨q, 0, none⟩ = some (.slice (some ⟨g, 0, none⟩) ps.length cp) := by rw [row_cell hna.box]; rfl
  have hcg : ∀ i p, ps[i]? = some p → wA.cell? ⟨g, i * 2, none⟩ = some (.pointer (pt0 N p)) ∧ wA.cell? ⟨g, i * 2 + 1, none⟩ = some (.pointer (pt1 N p)) := fun i p h => ⟨hgc _ _ (plsC_get N ps i p h).1, hgc _ _ (plsC_get N ps i p h).2⟩
  have hq0 : N + 5 ≤ q := by have := hna.hB; omega
  have hg0' : N + 5 ≤ g := by omega
  have lbA : LB wA N (.slice (some ⟨N + 3, 0, none⟩) (nm (c 0)).length cap3) (nm (c 0)) := (LB.mk HX5.out HR5.out).call hbA
  have evA : EvAt wA N c := (hbA.block _ (by omega)).trans HE5.out
  have sA := (hbA.block _ (by omega)).trans HS5.out
  have iA := (hbA.block _ (by omega)).trans HI5.out
  have HEA := Lib.hid evA
  have HSA := Lib.hid sA
  have HIA := Lib.hid iA
  have HBA := Lib.hid hbA2
  have HQA := Lib.hid hna.box
  have HGA := Lib.hid hgb
  have HPS := Lib.hid hps
  have HPO := Lib.hid hpok
  have hql : q < wA.heap.size := hna.lt
  have HEN := Lib.hid (fun (v : World) (hv : Below w.heap.size w v) => hE.call hv)
  have HEC := Lib.hid hc
  have HFC := Lib.hid hc6
  clear hbA hbA2 hna hgc evA sA iA HB5 HE5 HS5 HI5 HX5 HR5 HC HNUM hps hgb hpok hE hc hc6
  have HKP : Hid (∀ V V', Tn N wA V → Tn N V V' → KeepsFrom wA.heap.size V V' ∧ KpQ q g V V') := Lib.hid (fun V V' h1 h2 => by
    have a1 := h1.block HQA.out (by omega) (by decide)
    have a2 := h1.block HGA.out (by omega) (by decide)
    exact ⟨h2.keeps (by omega), (h2.block a1 (by omega) (by decide)).trans a1.symm, (h2.block a2 (by omega) (by decide)).trans a2.symm, h2.bel.size⟩)
  refine wpIn_rangeFunc_ownH (α := Fin ps.length) rfl (by decide) (gf := 33) (lb := #[.pointer (some ⟨q, 0, none⟩)]) rfl trivial (enters_of Tryd.func33 (by kernel_rfl) rfl)
    (encs := encN N ps) (Kp := KpQ q g) (S := fun xs => xs = fstP ps.length ps.length) (Sp := fun pre => ∃ k, ∃ h : k < ps.length, pre = fstP ps.length k ++ [⟨k, h⟩]) (N := ps.length) (w0 := wA) (numbers1_seq 1 N q g cp ps wA hsc (by omega) hg1 hql hcg)
    (fun h k => h.trans k) ?hKb (Below.refl _ _) (fun _ => rfl) (LineI wA N c ps) (LineX wA N c ps) (LineI.from (by omega)) (fun cd => LineX.from (by omega) cd) ⟨⟨_, by unfold txt; simpa using lbA⟩, Tn.refl _ _, (fun _ h => absurd h List.not_mem_nil), fun _ => by unfold txt; simpa using nm_len (c 0)⟩
    (fun x a' W => ∃ d, a' = { tmps := #[.agg (evA c), .pointer (some ⟨N, 0, none⟩), .pointer (some ⟨N + 1, 0, none⟩), .pointer (some ⟨N + 1 + 1, 0, none⟩), .string (bs (nm (c 0))), .pointer (some ⟨N + 3 + 1, 0, none⟩), .pointer (some ⟨d, 0, none⟩), .pointer (some ⟨N, 0, none⟩), .int .i64 (c 0), .string (bs (nm (c 0))), .string (bs (nm (c 0))), .bool false, .string (bs (nm (c 0))), .slice (some ⟨N + 3, 0, none⟩) (nm (c 0)).length cap3, .func (.func 33) #[] #[.pointer (some ⟨q, 0, none⟩)], .agg #[.pointer (pt0 N (plAt ps x)), .pointer (pt1 N (plAt ps x))], undef, undef, undef, undef, undef, undef, undef, undef, undef, undef, undef, undef, undef, undef, undef, undef, undef, undef, undef, undef, undef, undef, undef, undef, undef, undef, undef, undef, undef, undef, undef, undef, undef, undef], defers := [] } ∧ W.heap[d]? = some (.cells #[.pointer (pt0 N (plAt ps x)), .pointer (pt1 N (plAt ps x))] 66 (0, 0)) ∧ wA.heap.size ≤ d) ?hAx
    ?hassign ?hbody ?hdone ?hstop
  case hKb =>
    intro W l o o' hl ho _ _
    exact ⟨heap_putObj_ne (by omega), heap_putObj_ne (by omega), by simp⟩
  case hAx =>
    rintro x a' _ A C row ⟨d, h1, h2, h3⟩ hg hr
    refine ⟨d, h1, (hg.block d (Array.getElem?_eq_some_iff.1 h2).1 (fun e => ?_)).trans h2, h3⟩
    obtain ⟨-, o, ho, hc⟩ := hr d e.symm
    rw [show A.heap[d]? = _ from h2] at ho
    cases ho
    cases hc
  case hassign =>
    intro l pre x W K hI hK
    simp only [encN, numV2_eq]
    gi_wp2
    have hsz := hI.tn.bel.size
    have tw : Tn N W (W.alloc (.cells #[.pointer (pt0 N (plAt ps x)), .pointer (pt1 N (plAt ps x))] 66)) := Tn.of_below (bal (Below.refl _ _) _) (by omega)
    obtain ⟨v, hlb⟩ := hI.lb
    exact hK _ _ (HKP.out _ _ hI.tn tw).1 (HKP.out _ _ hI.tn tw).2 ⟨⟨v, hlb.call (bal (Below.refl _ _) _)⟩, hI.tn.trans tw, hI.no, hI.len⟩ ⟨W.heap.size, rfl, World.alloc_heap_new _ _, hsz⟩
  case hbody =>
    rintro l pre x a' W hl hr hI ⟨d, rfl, hd, hd4⟩ hlen
    have hsz := hI.tn.bel.size
    obtain ⟨v, hlb⟩ := hI.lb
    have hT : (txt c ps pre).length ≤ 200 := by have := hI.len (by omega); omega
    obtain ⟨v2, w2, ⟨g2, k2, rfl⟩, hrun, hc2, hf2, hlb2, htn2⟩ := app_space hlb (by omega)
    have hcl := hlb.cell
    have hll := hlb.lt
    have HI := Lib.hid hI
    have HD := Lib.hid hd
    have HLB2 := Lib.hid hlb2
    have HTN2 := Lib.hid htn2
    have HTL := Lib.hid hT
    have HSN := Lib.hid (txt_snoc c ps pre x)
    clear hI hd hlb hlb2 htn2 hT hr hlen hl hsc hcg
    gi_upto_region 9 with fail
    obtain ⟨T, hTd⟩ : ∃ T, T = txt c ps pre := ⟨_, rfl⟩
    rw [← hTd] at HLB2 HTL HSN ⊢
    obtain ⟨W3, hW3⟩ : ∃ y, y = w2.setCell ⟨N + 3 + 1, 0, none⟩ (.slice (some ⟨g2, 0, none⟩) (T.length + 1) k2) := ⟨_, rfl⟩
    rw [← hW3]
    have hlb3 : LB W3 N (.slice (some ⟨g2, 0, none⟩) (T.length + 1) k2) (T ++ [32]) := by rw [hW3]; exact HLB2.out
    have htn3 : Tn N W W3 := by rw [hW3, hTd]; exact HTN2.out
    have hd3 := htn3.block HD.out (by omega) (by decide)
    have hev := (HI.out.tn.trans htn3).block HEA.out (by omega) (by decide)
    have hs3 := (HI.out.tn.trans htn3).block HSA.out (by omega) (by decide)
    have hi3 := (HI.out.tn.trans htn3).block HIA.out (by omega) (by decide)
    have hz3 : wA.heap.size ≤ W3.heap.size := (HI.out.tn.trans htn3).bel.size
    have e0 : W3.cell? ⟨d, 0, none⟩ = some (.pointer (pt0 N (plAt ps x))) := by rw [row_cell hd3]; rfl
    have e1 : W3.cell? ⟨d, 1, none⟩ = some (.pointer (pt1 N (plAt ps x))) := by rw [row_cell hd3]; rfl
    have hcl3 := hlb3.cell
    have HL3 := Lib.hid hlb3
    have HT3 := Lib.hid htn3
    have HD3 := Lib.hid hd3
    have HEV := Lib.hid hev
    have HS3 := Lib.hid hs3
    have HI3 := Lib.hid hi3
    have hpo : PlOk (plAt ps x) := HPO.out _ (List.getElem_mem x.2)
    have HFX : Hid (farX c ps x = farP (plAt ps x).1 (c (plAt ps x).2)) := Lib.hid rfl
    have HDL : Hid ((c (plAt ps x).2).toNat < 18446744073709551616) := Lib.hid (by
      by_cases hw : (plAt ps x).1 = true
      · have h2 : 3 ≤ (plAt ps x).2 ∧ (plAt ps x).2 ≤ 11 := by simpa [PlOk, hw] using hpo
        have := HEC.out _ h2.1 h2.2
        omega
      · have := HFC.out (plAt ps x).2
        omega)
    have HNO : Hid (farX c ps x = false → ∀ y ∈ pre ++ [x], farX c ps y = false) := Lib.hid (fun h y hy => by
      rcases List.mem_append.1 hy with hy | hy
      · exact HI.out.no y hy
      · rw [List.mem_singleton] at hy
        rw [hy]; exact h)
    have HBW3 : Hid (Below w.heap.size w W3) := Lib.hid (by rw [← HNW.out]; exact HBA.out.trans ((HI.out.tn.trans htn3).bel.mono (by omega)))
    have HTD := Lib.hid hTd
    clear hTd hW3 hlb3 htn3 hd3 hev hs3 hi3 hcl hll hrun hc2 hf2 HLB2 HTN2 HD
    have HFI : Hid (∀ V, Tn N W V → farX c ps x = false → (∃ v, LB V N v (txt c ps (pre ++ [x]))) → KeepsFrom wA.heap.size W V ∧ KpQ q g W V ∧ LineI wA N c ps (pre ++ [x]) V) := Lib.hid (fun V h1 h2 h3 => ⟨(HKP.out _ _ HI.out.tn h1).1, (HKP.out _ _ HI.out.tn h1).2, ⟨h3, HI.out.tn.trans h1, HNO.out h2, fun hl => by
      have hl' : pre.length ≤ 100 := by simp at hl; omega
      have := HI.out.len hl'
      have hd := nd20 (show (c (plAt ps x).2).toNat < 18446744073709551616 from HDL.out)
      rw [txt_snoc]
      simp only [List.length_append, List.length_singleton]
      omega⟩⟩)
    generalize plAt ps x = p at *
    obtain ⟨wd, i⟩ := p
    cases wd
    · have hpi : i < 3 ∨ 11 < i ∧ i < 15 := by simpa [PlOk] using hpo
      have hci := evAt_i64 HEV.out i hpi
      simp only [pt0, pt1, Bool.false_eq_true, if_false] at e0 e1
      by_cases hfar : farP false (c i) = true
      · have HFF : Hid (farX c ps x = true) := Lib.hid (HFX.out.trans hfar)
        have hor : c i < 0 ∨ ¬ c i < 0 ∧ 999999 < c i := by
          unfold farP at hfar
          simp at hfar
          omega
        have hsz2 : W.heap.size ≤ W3.heap.size := HT3.out.bel.size
        have hcs : W3.cell? ⟨N + 1, 0, none⟩ = some (.string { data := #[] }) := by rw [row_cell HS3.out]; rfl
        have hcI : W3.cell? ⟨N + 2, 0, none⟩ = some (.int .i64 0) := by rw [row_cell HI3.out]; rfl
        have hfs : W3.frozen? ⟨N + 1, 0, none⟩ = false := by simp [World.frozen?, HS3.out]
        have hfI : W3.frozen? ⟨N + 2, 0, none⟩ = false := by simp [World.frozen?, HI3.out]
        have hend : ∀ V, V = (W3.setCell ⟨N + 1, 0, none⟩ (.string { data := #[] })).setCell ⟨N + 2, 0, none⟩ (.int .i64 3) → KeepsFrom wA.heap.size W V ∧ LineX wA N c ps .ret (pre ++ [x]) V := by
          rintro V rfl
          refine ⟨keeps_set (keeps_set (HT3.out.keeps (B := wA.heap.size) (by omega)) ⟨N + 1, 0, none⟩ (by show N + 1 < wA.heap.size; omega) _) ⟨N + 2, 0, none⟩ (by show N + 2 < wA.heap.size; omega) _, rfl, ⟨x, List.mem_append_right _ List.mem_cons_self, HFF.out⟩, ?_, ?_, ?_⟩
          · rw [Below.heap_setCell _ _ _ _ (by simp), Go.heap_setCell_same _ _ _ _ _ _ HS3.out]; rfl
          · rw [Go.heap_setCell_same _ _ _ _ _ _ (show (W3.setCell ⟨N + 1, 0, none⟩ (.string { data := #[] })).heap[N + 2]? = some (.cells #[.int .i64 0] 24 (0, 0)) from by rw [Below.heap_setCell _ _ _ _ (by simp)]; exact HI3.out)]; rfl
          · exact (((HI.out.tn.trans HT3.out).bel.mono (by omega)).setCell (p := ⟨N + 1, 0, none⟩) (by show N ≤ N + 1; omega) _).setCell (p := ⟨N + 2, 0, none⟩) (by show N ≤ N + 2; omega) _
        have HEND := Lib.hid hend
        clear hfar hend
        rcases hor with q1 | ⟨q1, q2⟩
        · gi_wp2
          exact HEND.out _ rfl
        · have q1' : (c i < 0) = False := by rw [eq_iff_iff, iff_false]; exact q1
          clear q1
          gi_wp2
          exact HEND.out _ rfl
      · have hf2 : 0 ≤ c i ∧ c i ≤ 999999 := far_pos (by simpa using hfar) rfl
        have HC := Lib.hid (pint_app (w := W3.drew) (B := N + 3) (n := (T ++ [32]).length) (v := .slice (some ⟨g2, 0, none⟩) (T.length + 1) k2) (xs := Lib.byteCells (T ++ [32])) HL3.out.row.drew (c i) hf2.1 hf2.2 (by have := HTL.out; simp; omega) (by show N + 3 ≤ W3.heap.size; omega) ((HEN.out W3 HBW3.out).call (Below.refl _ _).drew))
        have q1 : (c i < 0) = False := by rw [eq_iff_iff, iff_false]; omega
        have q2 : ((999999 : Int) < c i) = False := by rw [eq_iff_iff, iff_false]; omega
        have HFF : Hid (farX c ps x = false) := Lib.hid (HFX.out.trans (by simpa using hfar))
        clear hpo hfar
        gi_upto_region 8 with fail
        gi_region_with (refine ⟨trivial, ?_⟩; gi_at_call 25; with_reducible refine (calls_round HC.out).mono ?_; rintro e w5 ⟨v5, rfl, ha⟩; obtain ⟨g5, k5, rfl⟩ := ha.row.form; have HAP := Lib.hid ha.undrew; obtain ⟨a1, a2, -, -⟩ := lb_step HL3.out HAP.out; clear ha)
        all_goals
          gi_wp2
          obtain ⟨-, -, a3, a4⟩ := lb_step HL3.out HAP.out
          simp only [List.length_append, List.length_singleton] at a3 a4
          exact HFI.out _ (HT3.out.trans a4) HFF.out ⟨_, by rw [HSN.out]; exact a3⟩
    · have hpi : 3 ≤ i ∧ i ≤ 11 := by simpa [PlOk] using hpo
      have hci := evAt_u64 HEV.out i hpi
      simp only [pt0, pt1, if_true] at e0 e1
      have hcw := HEC.out i hpi.1 hpi.2
      obtain ⟨u, hu⟩ : ∃ u : Nat, u = (c i).toNat := ⟨_, rfl⟩
      have hcu : c i = (u : Int) := by omega
      have hci2 : W3.cell? ⟨N, i, none⟩ = some (.int .u64 (u : Int)) := by rw [hci, hcu]
      have HC := Lib.hid (puint_app (w := W3.drew) (B := N + 3) (n := (T ++ [32]).length) (v := .slice (some ⟨g2, 0, none⟩) (T.length + 1) k2) (xs := Lib.byteCells (T ++ [32])) HL3.out.row.drew u (by omega) (by have := HTL.out; simp; omega) (by show N + 3 ≤ W3.heap.size; omega) ((HEN.out W3 HBW3.out).call (Below.refl _ _).drew))
      have HFF : Hid (farX c ps x = false) := Lib.hid (HFX.out.trans rfl)
      have HU := Lib.hid hu
      clear hpo hci hcu hu hcw
      gi_upto_region 10 with fail
      gi_region_with (refine ⟨trivial, ?_⟩; gi_at_call 24; with_reducible refine (calls_round HC.out).mono ?_; rintro e w5 ⟨v5, rfl, ha⟩; obtain ⟨g5, k5, rfl⟩ := ha.row.form; have HAP := Lib.hid ha.undrew; obtain ⟨a1, a2, -, -⟩ := lb_step HL3.out HAP.out; clear ha)
      all_goals
        gi_wp2
        obtain ⟨-, -, a3, a4⟩ := lb_step HL3.out HAP.out
        simp only [List.length_append, List.length_singleton] at a3 a4
        exact HFI.out _ (HT3.out.trans a4) HFF.out ⟨_, by rw [HSN.out, ← HU.out]; exact a3⟩
  case hdone =>
    rintro D xs W hD rfl hI hK
    obtain ⟨v, hlb⟩ := hI.lb
    obtain ⟨g5, k5, rfl⟩ := hlb.row.form
    have hle : lineE c = (txt c ps (fstP ps.length ps.length), 0) := by
      have := line_full c h (by rw [← HPS.out]; exact hI.no)
      rw [← HPS.out] at this
      exact this
    obtain ⟨T, hTd⟩ : ∃ T, T = txt c ps (fstP ps.length ps.length) := ⟨_, rfl⟩
    rw [← hTd] at hlb hle
    have HLE := Lib.hid hle
    have hcl := hlb.cell
    have hcv2 := run_convert_bytes_back (P := Tryd.prog) W 48 9 5 ⟨g5, 0, none⟩ k5 T Tryd.underlying48 Tryd.underlying5 Tryd.underlying9 (fun j hj => hlb.row.cells rfl j _ (by simp [Lib.byteCells, hj]))
    have hs3 := hI.tn.block HSA.out (by omega) (by decide)
    have hi3 := hI.tn.block HIA.out (by omega) (by decide)
    have hcs : W.cell? ⟨N + 1, 0, none⟩ = some (.string { data := #[] }) := by rw [row_cell hs3]; rfl
    have hcI : W.cell? ⟨N + 2, 0, none⟩ = some (.int .i64 0) := by rw [row_cell hi3]; rfl
    have hfs : W.frozen? ⟨N + 1, 0, none⟩ = false := by simp [World.frozen?, hs3]
    have hfI : W.frozen? ⟨N + 2, 0, none⟩ = false := by simp [World.frozen?, hi3]
    have HS3 := Lib.hid hs3
    have HI3 := Lib.hid hi3
    have HBW : Hid (Below N w W) := Lib.hid (HBA.out.trans (hI.tn.bel.mono (by omega)))
    have HK := Lib.hid hK
    clear hI hlb hle hTd hs3 hi3 hK hcg hsc
    gi_wp2
    obtain ⟨V, hV⟩ : ∃ V, V = (W.setCell ⟨N + 1, 0, none⟩ (.string { data := List.toArray T })).setCell ⟨N + 1 + 1, 0, none⟩ (.int .i64 0) := ⟨_, rfl⟩
    rw [← hV]
    have v1 : V.heap[N + 1]? = some (.cells #[.string (bs T)] 9 (0, 0)) := by rw [hV, Below.heap_setCell _ _ _ _ (by simp), Go.heap_setCell_same _ _ _ _ _ _ HS3.out]; rfl
    have v2 : V.heap[N + 2]? = some (.cells #[.int .i64 0] 24 (0, 0)) := by rw [hV, Go.heap_setCell_same _ _ _ _ _ _ (show (W.setCell ⟨N + 1, 0, none⟩ (.string { data := List.toArray T })).heap[N + 1 + 1]? = some (.cells #[.int .i64 0] 24 (0, 0)) from by rw [Below.heap_setCell _ _ _ _ (by simp)]; exact HI3.out)]; rfl
    have vD : V.heap[D]? = some (.deferred (some [])) := by rw [hV, Below.heap_setCell _ _ _ _ (by show D ≠ N + 1 + 1; omega), Below.heap_setCell _ _ _ _ (by show D ≠ N + 1; omega)]; exact HK.out
    have vB : Below N w V := by rw [hV]; exact (HBW.out.setCell (p := ⟨N + 1, 0, none⟩) (by show N ≤ N + 1; omega) _).setCell (p := ⟨N + 1 + 1, 0, none⟩) (by show N ≤ N + 1 + 1; omega) _
    clear hV
    refine ⟨by simp, .inl ⟨_, _, rfl, run_takeDeferred (w := V) vD, ?_⟩⟩
    have y0 : ∀ ob, (V.putObj D ob).cell? ⟨N + 1, 0, none⟩ = some (.string (bs T)) := fun ob => by rw [row_cell ((heap_putObj_ne (by omega)).trans v1)]; rfl
    have y1 : ∀ ob, (V.putObj D ob).cell? ⟨N + 1 + 1, 0, none⟩ = some (.int .i64 0) := fun ob => by rw [row_cell ((heap_putObj_ne (by omega)).trans v2)]; rfl
    refine ⟨.tuple #[.string (bs T), .int .i64 0], ?_, by rw [HLE.out], ?_⟩
    · simp [results, Tryd.results12, go_sem, y0, y1]
    · rw [← HNW.out]
      exact ⟨vB.os, vB.tape, vB.output, by simpa using vB.size, fun k hk => (heap_putObj_ne (by omega)).trans (vB.block k hk)⟩
  case hstop =>
    rintro D cd pre W hD hSp hX hK
    obtain rfl := hX.hcd
    have hle : lineE c = ([], 3) := line_bad c h (by
      obtain ⟨x, _, hx⟩ := hX.yes
      exact ⟨plAt ps x, by rw [← HPS.out]; exact List.getElem_mem x.2, hx⟩)
    have HLE := Lib.hid hle
    have HX := Lib.hid hX
    have HK := Lib.hid hK
    have HBW : Hid (Below N w W) := Lib.hid (HBA.out.trans hX.bel)
    clear hX hle hK hSp hcg hsc
    gi_wp2
    obtain ⟨V, hV⟩ : ∃ V, V = W := ⟨_, rfl⟩
    rw [← hV]
    have v1 : V.heap[N + 1]? = some (.cells #[.string (bs [])] 9 (0, 0)) := by rw [hV]; exact HX.out.s
    have v2 : V.heap[N + 2]? = some (.cells #[.int .i64 3] 24 (0, 0)) := by rw [hV]; exact HX.out.i
    have vD : V.heap[D]? = some (.deferred (some [])) := by rw [hV]; exact HK.out
    have vB : Below N w V := by rw [hV]; exact HBW.out
    clear hV
    refine ⟨by simp, .inl ⟨_, _, rfl, run_takeDeferred (w := V) vD, ?_⟩⟩
    have y0 : ∀ ob, (V.putObj D ob).cell? ⟨N + 1, 0, none⟩ = some (.string (bs [])) := fun ob => by rw [row_cell ((heap_putObj_ne (by omega)).trans v1)]; rfl
    have y1 : ∀ ob, (V.putObj D ob).cell? ⟨N + 1 + 1, 0, none⟩ = some (.int .i64 3) := fun ob => by rw [row_cell ((heap_putObj_ne (by omega)).trans v2)]; rfl
    refine ⟨.tuple #[.string (bs []), .int .i64 3], ?_, by rw [HLE.out], ?_⟩
    · simp [results, Tryd.results12, go_sem, y0, y1]
    · rw [← HNW.out]
      exact ⟨vB.os, vB.tape, vB.output, by simpa using vB.size, fun k hk => (heap_putObj_ne (by omega)).trans (vB.block k hk)⟩
end Sc
end Go.Proofs.YthgmanncmekeeaaDoor
