/- package decode: Decode, where the forms stand. -/
import Derived.Test.YtahagcghbeeajaaDcC
import Derived.RangeFuncNested
import Derived.Sort.CutIn
namespace Go.Proofs.Ytahagcghbeeajaa
set_option linter.unusedVariables false
set_option linter.unusedSimpArgs false
open Go.ChangeShapes Go.WideShapes Go.ChangeAt Go.RowKit Go.Shelf
attribute [local go_sem] Oper.semAt_some

set_option maxRecDepth 100000 in
set_option maxHeartbeats 2000000 in
theorem decode_in1 (a : Nat → Int) (L : List Frm) (w : World) (hL : formsL 1 = some L) (hk : ¬ framesN (wrap64 (a 1)) (wrap64 (a 2)) = 0) :
    CallsIn Fence.wide 3 Try.prog 7 #[.agg (callA 1 a)] w fun e w' => e = .returned (.tuple #[ordV (decM 1 a).1, .int .i64 (decM 1 a).2]) ∧ Below w.heap.size w w' := by
  have HF := fun w => forms_some 1 1 L rfl hL w
  have HF1 := Lib.hid HF
  clear HF
  have hk' : (framesN (wrap64 (a 1)) (wrap64 (a 2)) == 0) = false := beq_eq_false_iff_ne.2 hk
  have hz : ∀ w, (zeroValue 29).run Try.prog w = .ok (.agg #[.int .i64 0, .int .i64 0, .int .i64 0, .int .i64 0, .int .i64 0, .int .i64 0, .int .i64 0, .int .u64 0, .int .u64 0, .int .u64 0, .int .u64 0, .int .u64 0]) w := zeroOrd
  have hq := fun w q l c => Go.Lib.run_eql_slice_nil (P := Try.prog) w 46 53 (some ⟨q, 0, none⟩) l c 0 0 Try.underlying46
  have hc0 : (callA 1 a)[0]? = some (.int .u64 1) := rfl
  refine callsIn_of_wp_marks Try.func7 rfl trivial ?_ rfl
  simp only [Try.ntmps7, List.size_toArray, List.length_cons, List.length_nil, Nat.reduceAdd, Nat.reduceSub, Array.replicate_succ, Array.replicate_zero, List.push_toArray, List.append_toArray, List.nil_append, List.cons_append]
  gi_wp2
  refine wpIn_scope_wide ?_
  gi_wp2_with (refine ⟨trivial, ?_⟩; first
    | (gi_at_call 14; refine (callsIn_wide.2 (HF1.out _)).mono ?_; rintro e w1 ⟨v, rfl, ⟨q, c, rfl, hlc, hql, hqc⟩, hb1⟩; have ho := (ord_new (w.alloc (.cells (callA 1 a) 25)) zO).call hb1; rw [World.size_alloc] at ho; have HO := Lib.hid ho; have HB := Lib.hid hb1; have hca := ((call_new w 1 a).call (bal (Below.refl _ _) _)).call hb1; obtain ⟨c0, c1, c2, c3, c4, c5, c6⟩ := hca.cells; have HCA := Lib.hid hca; have HQC := Lib.hid hqc; clear ho hb1 hca hqc)
    | (gi_at_call 15; refine (callsIn_wide.2 (kframes_any _ _ _)).mono ?_; rintro e w2 ⟨rfl, rfl⟩))
  gi_wp2
  rw [lit_o1]
  have hbw : Below w.heap.size w w1 := bgo (bal (bal (Below.refl _ _) _) _) HB.out
  have hsz1 : w.heap.size + 2 ≤ w1.heap.size := by have := HB.out.size; simpa using this
  obtain ⟨S1, hS1⟩ : ∃ S, w1.heap.size = S := ⟨_, rfl⟩
  obtain ⟨w2, hw2⟩ : ∃ x, x = ((w1.alloc (.cells (ordA (o0 1)) 29)).alloc (.cells #[.int .i64 0] 30)) := ⟨_, rfl⟩
  rw [← hw2]
  obtain ⟨b12, s2, o2, k2⟩ := two_boxes w1 w2 (o0 1) S1 hS1 hw2
  have ca2 := HCA.out.call b12
  have fo2 : ∀ i f, L[i]? = some f → w2.cell? ⟨q, 3 * i, none⟩ = some (.int .i64 f.1) ∧ w2.cell? ⟨q, 3 * i + 1, none⟩ = some (.int .u64 f.2.1) ∧ w2.cell? ⟨q, 3 * i + 2, none⟩ = some (.int .u64 f.2.2) := fun i f h => by
    obtain ⟨x, y, z⟩ := HQC.out i f h
    have e : w2.heap[q]? = w1.heap[q]? := b12.block q hql
    exact ⟨(cell_of_block e).trans x, (cell_of_block e).trans y, (cell_of_block e).trans z⟩
  have HFO := Lib.hid fo2
  have ho2 := (HO.out.call b12)
  have HO2 := Lib.hid ho2
  have B2 : Below w.heap.size w w2 := hbw.trans (b12.mono (by omega))
  clear c0 c1 c2 c3 c4 c5 c6 ho2 fo2 hw2 HQC HB HO hbw HF1
  obtain ⟨c0, c1, c2, c3, c4, c5, c6⟩ := ca2.cells
  have HCA2 := Lib.hid ca2
  clear HCA ca2
  rw [hS1] at b12 hsz1 hql ⊢
  refine wpIn_label ?_
  gi_wp2_with (refine ⟨trivial, ?_⟩; first
    | (gi_at_call 16; refine (words_in _ 1 a _ _ ⟨_, _, _, rfl⟩).mono ?_; rintro e w3 ⟨rfl, rfl⟩))
  obtain ⟨wA, hwA⟩ : ∃ x, x = (w2.alloc (.cells (callA 1 a) 25)).alloc (.cells #[.slice (some ⟨q, 0, none⟩) L.length c] 46) := ⟨_, rfl⟩
  rw [← hwA]
  have hsA : wA.heap.size = S1 + 4 := by rw [hwA, World.size_alloc, World.size_alloc, s2]
  have hBA : Below w2.heap.size w2 wA := hwA ▸ bal (bal (Below.refl _ _) _) _
  have hp : CallAt wA (S1 + 2) 1 a := by rw [hwA, ← s2]; exact alloc_old (call_new w2 1 a) (by simp)
  have hs : wA.heap[S1 + 2 + 1]? = some (.cells #[.slice (some ⟨q, 0, none⟩) L.length c] 46 (0, 0)) := by
    have e := World.size_alloc w2 (.cells (callA 1 a) 25)
    have h := World.alloc_heap_new (w2.alloc (.cells (callA 1 a) 25)) (.cells #[.slice (some ⟨q, 0, none⟩) L.length c] 46)
    rw [e, s2] at h
    rw [hwA]; exact h
  have hsc : wA.cell? ⟨S1 + 2 + 1, 0, none⟩ = some (.slice (some ⟨q, 0, none⟩) L.length c) := by rw [row_cell hs]; rfl
  have hqA : ∀ i f, L[i]? = some f → wA.cell? ⟨q, 3 * i, none⟩ = some (.int .i64 f.1) ∧ wA.cell? ⟨q, 3 * i + 1, none⟩ = some (.int .u64 f.2.1) ∧ wA.cell? ⟨q, 3 * i + 2, none⟩ = some (.int .u64 f.2.2) := fun i f h => by
    obtain ⟨x, y, z⟩ := HFO.out i f h
    have e : wA.heap[q]? = w2.heap[q]? := hBA.block q (by omega)
    exact ⟨(cell_of_block e).trans x, (cell_of_block e).trans y, (cell_of_block e).trans z⟩
  have oA : OrdAt wA S1 (o0 1) := o2.call hBA
  have kA : CodeAt wA (S1 + 1) 0 := (hBA.block _ (by omega)).trans k2
  have cA : CallAt wA w.heap.size 1 a := HCA2.out.call hBA
  have rA : OrdAt wA (w.heap.size + 1) zO := HO2.out.call hBA
  have HRA := Lib.hid rA
  have BA : Below w.heap.size w wA := B2.trans (hBA.mono (by omega))
  have HBA := Lib.hid BA
  have hlt := forms_lt 1 L hL
  have HLT := Lib.hid hlt
  clear hwA HFO HO2 HCA2 c0 c1 c2 c3 c4 c5 c6 hq o2 k2 hBA cA rA BA hs hlt hc0 hz
  refine wpIn_rangeFunc_ownH (α := Fin 6) rfl (by decide) (gf := 23) (lb := #[.pointer (some ⟨S1 + 2, 0, none⟩), .pointer (some ⟨S1 + 2 + 1, 0, none⟩)]) rfl trivial (enters_of Try.func23 (by kernel_rfl) rfl)
    (encs := encW a L) (Kp := KpW (S1 + 2) (S1 + 2 + 1) q) (S := fun xs => xs = fst6 6) (Sp := fun pre => ∃ k, ∃ h : k < 6, pre = fst6 k ++ [⟨k, h⟩]) (N := 6) (w0 := wA) (words1_seq 1 (S1 + 2) (S1 + 2 + 1) q c 1 a L wA hp hsc hqA (by omega) (by omega))
    (fun h k => h.trans k) ?hKb (Below.refl _ _) (fun _ => rfl) (DecI wA S1 1 L a) (DecX wA S1 L a) (DecI.from (by omega)) (fun c => DecX.from (by omega) c) ⟨oA, kA, (fun _ h => absurd h List.not_mem_nil), Two.refl _ _⟩
    (fun x a' W => ∃ d, a' = { tmps := #[.agg (callA 1 a), .pointer (some ⟨w.heap.size, 0, none⟩), .pointer (some ⟨w.heap.size + 1, 0, none⟩), .int .i64 0, .slice (some ⟨q, 0, none⟩) L.length c, .pointer (some ⟨S1, 0, none⟩), .pointer (some ⟨S1 + 1, 0, none⟩), .int .u64 (a x.1), .pointer (some ⟨d, 0, none⟩), .pointer (some ⟨w.heap.size, 0, none⟩), .int .u64 1, .slice (some ⟨q, 0, none⟩) L.length c, .slice (some ⟨q, 0, none⟩) L.length c, .bool false, undef, .pointer (some ⟨w.heap.size, 0, none⟩), .int .u64 1, .bool true, .bool true, .pointer (some ⟨w.heap.size, 1, none⟩), .pointer (some ⟨w.heap.size, 2, none⟩), .int .u64 (a 1), .int .i64 (wrap64 (a 1)), .pointer (some ⟨w.heap.size, 1, none⟩), .pointer (some ⟨w.heap.size, 3, none⟩), .int .u64 (a 2), .int .i64 (wrap64 (a 2)), .int .i64 (framesN (wrap64 (a 1)) (wrap64 (a 2))), .bool false, .bool false, undef, .pointer (some ⟨w.heap.size, 0, none⟩), .int .u64 1, .int .i64 1, .agg (ordA (o0 1)), .agg (callA 1 a), .slice (some ⟨q, 0, none⟩) L.length c, .func (.func 23) #[] #[.pointer (some ⟨S1 + 2, 0, none⟩), .pointer (some ⟨S1 + 2 + 1, 0, none⟩)], .int .u64 (a x.1), .agg #[.int .i64 (fmAt L x.1).1, .int .u64 (fmAt L x.1).2.1, .int .u64 (fmAt L x.1).2.2], undef, undef, undef, undef, undef, undef, undef, undef, undef, undef, undef, undef, undef, undef, undef, undef, undef, undef, undef, undef, undef, undef, undef, undef, undef, undef, undef, undef], defers := [] } ∧ FrmBox W d (fmAt L x.1) ∧ S1 + 4 ≤ d) ?hAx
    ?hassign ?hbody ?hdone ?hstop
  case hKb =>
    intro W l o o' hl ho _ _
    exact ⟨heap_putObj_ne (by omega), heap_putObj_ne (by omega), heap_putObj_ne (by omega), by simp⟩
  case hAx =>
    rintro x a' _ A C row ⟨d, h1, h2, h3⟩ hg hr
    refine ⟨d, h1, (hg.block d (Array.getElem?_eq_some_iff.1 h2).1 (fun e => ?_)).trans h2, h3⟩
    obtain ⟨-, o, ho, hc⟩ := hr d e.symm
    rw [show A.heap[d]? = _ from h2] at ho
    cases ho
    cases hc
  case hassign =>
    intro l pre x W K hI hK
    clear hL
    gi_wp2
    have tw : Two S1 W (W.alloc (.cells #[.int .i64 (fmAt L x.1).1, .int .u64 (fmAt L x.1).2.1, .int .u64 (fmAt L x.1).2.2] 53)) := Two.of_below (bal (Below.refl _ _) _)
    have hz := hI.but.size
    exact hK _ _ (tw.keeps (by omega)) (tw.kpw (by omega) (by omega) (by omega) (by omega) (by omega) (by omega)) ⟨alloc_old hI.ord (by omega), alloc_old hI.code (by omega), hI.no, hI.but.trans tw⟩ ⟨W.heap.size, rfl, World.alloc_heap_new _ _, by omega⟩
  case hbody =>
    rintro l pre x a' W hl hr hI ⟨d, rfl, hd, hd4⟩ hlen
    have hz := hI.but.size
    have hft := HLT.out x.1 x.2
    have hko := row_cell hI.code 0
    have hkf := frozen_of_row W (S1 + 1) 0 _ _ hI.code
    have hdl : d < W.heap.size := (Array.getElem?_eq_some_iff.1 hd).1
    have e0 := row_cell hd 0
    have e1 := row_cell hd 1
    have e2 := row_cell hd 2
    have HI := Lib.hid hI
    have hsn := runL_snoc 1 L a pre x
    unfold stepD at hsn
    have hso : stopD L a x.1 = decide ((fmAt L x.1).1 = 0 ∧ a x.1 ≠ 0) := rfl
    have hno : stopD L a x.1 = false → ∀ y ∈ pre ++ [x], stopD L a y.1 = false := fun h y hy => by
      rcases List.mem_append.1 hy with hy | hy
      · exact HI.out.no y hy
      · rw [List.mem_singleton] at hy
        rw [hy]; exact h
    obtain ⟨⟨f0, f1, f2⟩, hf⟩ : ∃ z, fmAt L x.1 = z := ⟨_, rfl⟩
    rw [hf] at hft hsn hso e0 e1 e2 ⊢
    obtain ⟨v, hv⟩ : ∃ v, a x.1 = v := ⟨_, rfl⟩
    rw [hv] at hsn hso ⊢
    have HSN := Lib.hid hsn
    have HNO := Lib.hid hno
    have HSO := Lib.hid hso
    clear hI hsn hso hno hd hf hv hL
    simp only [List.getElem?_toArray, List.getElem?_cons_zero, List.getElem?_cons_succ] at e0 e1 e2 hko
    have fin : ∀ (c : Int) (W' : World), stopD L a x.1 = false → CodeAt W' (S1 + 1) c → ∀ o, OrdAt W' S1 o → runL 1 L a (pre ++ [x]) = (o, c) → Two S1 W W' → KeepsFrom (S1 + 4) W W' ∧ KpW (S1 + 2) (S1 + 2 + 1) q W W' ∧ DecI wA S1 1 L a (pre ++ [x]) W' := fun c W' h1 h2 o h3 h4 h5 =>
      ⟨h5.keeps (by omega), h5.kpw (by omega) (by omega) (by omega) (by omega) (by omega) (by omega), ⟨by rw [h4]; exact h3, by rw [h4]; exact h2, HNO.out h1, HI.out.but.trans h5⟩⟩
    have finA : ∀ (c : Int) (W' : World), stopD L a x.1 = false → CodeAt W' (S1 + 1) c → ∀ o, OrdAt W' S1 o → runL 1 L a (pre ++ [x]) = (o, c) → Two S1 W W' → KeepsFrom wA.heap.size W W' ∧ KpW (S1 + 2) (S1 + 2 + 1) q W W' ∧ DecI wA S1 1 L a (pre ++ [x]) W' := fun c W' h1 h2 o h3 h4 h5 => by
      rw [hsA]; exact fin c W' h1 h2 o h3 h4 h5
    have FIN := Lib.hid fin
    have FINA := Lib.hid finA
    clear fin finA
    by_cases hst : f0 = 0 ∧ v ≠ 0
    · obtain ⟨rfl, hv0⟩ := hst
      have hb : (v != 0) = true := bne_iff_ne.2 hv0
      gi_wp2
      have tw := (Two.refl S1 W).set2 0 (.int .i64 2)
      exact ⟨tw.keeps (by omega), rfl, ⟨x, List.mem_append_right _ List.mem_cons_self, by rw [HSO.out]; simp [hv0]⟩, code_set 2 HI.out.code, HI.out.but.trans tw⟩
    · have hs0 : stopD L a x.1 = false := by rw [HSO.out]; exact decide_eq_false hst
      have HS0 := Lib.hid hs0
      clear hs0
      have hcs : (f0 = 0 ∧ v = 0) ∨ ¬ f0 = 0 := by omega
      clear hst
      rcases hcs with ⟨rfl, rfl⟩ | hf0
      · skip
        by_cases hlo : 0 < f1
        · gi_wp2
          exact FIN.out 3 _ HS0.out (code_set 3 HI.out.code) _ (((OneOnly.refl (q := S1 + 1)).set 0 _).block S1 HI.out.ord.lt (by omega) |>.trans HI.out.ord) (by rw [HSN.out, if_pos (.inl hlo)]) ((Two.refl S1 W).set2 0 _)
        · by_cases hhi : f2 < 0
          · gi_wp2
            exact FIN.out 3 _ HS0.out (code_set 3 HI.out.code) _ (((OneOnly.refl (q := S1 + 1)).set 0 _).block S1 HI.out.ord.lt (by omega) |>.trans HI.out.ord) (by rw [HSN.out, if_pos (.inr hhi)]) ((Two.refl S1 W).set2 0 _)
          · gi_wp2_with (refine ⟨trivial, ?_⟩; first
              | (gi_at_call 17; refine (callsIn_wide.2 (put_0 _ S1 _ _ HI.out.ord)).mono ?_; rintro e w3 ⟨rfl, ho3, hn3⟩))
            exact FINA.out _ _ HS0.out ((hn3.block (S1 + 1) (by omega) (by omega)).trans HI.out.code) _ ho3 (by rw [HSN.out, if_neg (by omega)]) (Two.of_one hn3)
      · have hb0 : ((f0 : Int) == 0) = false := beq_eq_false_iff_ne.2 (by omega)
        by_cases hlo : v < f1
        · gi_wp2
          exact FIN.out 3 _ HS0.out (code_set 3 HI.out.code) _ (((OneOnly.refl (q := S1 + 1)).set 0 _).block S1 HI.out.ord.lt (by omega) |>.trans HI.out.ord) (by rw [HSN.out, if_pos (.inl hlo)]) ((Two.refl S1 W).set2 0 _)
        · by_cases hhi : f2 < v
          · gi_wp2
            exact FIN.out 3 _ HS0.out (code_set 3 HI.out.code) _ (((OneOnly.refl (q := S1 + 1)).set 0 _).block S1 HI.out.ord.lt (by omega) |>.trans HI.out.ord) (by rw [HSN.out, if_pos (.inr hhi)]) ((Two.refl S1 W).set2 0 _)
          · gi_wp2_with (refine ⟨trivial, ?_⟩; first
              | (gi_at_call 17; refine (callsIn_wide.2 (put_any _ S1 _ _ f0 hft HI.out.ord)).mono ?_; rintro e w3 ⟨rfl, ho3, hn3⟩))
            exact FINA.out _ _ HS0.out ((hn3.block (S1 + 1) (by omega) (by omega)).trans HI.out.code) _ ho3 (by rw [HSN.out, if_neg (by omega)]) (Two.of_one hn3)
  case hdone =>
    rintro D xs W hD rfl hI hK
    have hz := hI.but.size
    have hko := row_cell hI.code 0
    have ht2 : OrdAt W (w.heap.size + 1) zO := (hI.but.block _ (by omega) (by omega) (by omega)).trans HRA.out
    have hany : (fst6 6).any (fun x => stopD L a x.1) = false := List.any_eq_false.2 (fun x hx => by rw [hI.no x hx]; exact Bool.false_ne_true)
    have hbw : Below w.heap.size w W := HBA.out.trans (hI.but.below (by omega) (by omega))
    have HBW := Lib.hid hbw
    have HI := Lib.hid hI
    have HANY := Lib.hid hany
    have HT2 := Lib.hid ht2
    have hmn : decM 1 a = if (runL 1 L a (fst6 6)).2 = 0 then ((runL 1 L a (fst6 6)).1, 0) else (zO, (runL 1 L a (fst6 6)).2) := by
      unfold decM
      rw [hL]
      show (if _ then _ else _) = _
      rw [if_neg (fun h => hk h.2), if_neg (by rw [HANY.out]; exact Bool.false_ne_true)]
      all_goals rfl
    obtain ⟨⟨o, cd⟩, hrl⟩ : ∃ z, runL 1 L a (fst6 6) = z := ⟨_, rfl⟩
    have hor := hI.ord
    rw [hrl] at hko hor hmn
    simp only [List.getElem?_toArray, List.getElem?_cons_zero] at hko
    have HOR := Lib.hid hor
    have HMN := Lib.hid hmn
    clear hany hbw ht2 hmn hor hI hrl hL
    by_cases hcd : cd = 0
    · subst hcd
      have HM2 : Hid (decM 1 a = (o, 0)) := Lib.hid (HMN.out.trans (if_pos rfl))
      gi_upto_region 17 with fail
      refine wpIn_wide.2 ?_
      go_wp2_with (first
        | (refine wpList_load_mid rfl 29 _ rfl S1 0 rfl (ordA o).toList _ (ord_range HOR.out) Try.underlying29 rfl (by kernel_rfl) ?_)
        | (refine wpList_store_mid rfl 29 _ _ rfl (w.heap.size + 1) 0 (ordA o) rfl rfl HT2.out.there (by kernel_rfl) (ord_one o) ?_))
      obtain ⟨ho2, hon⟩ := ord_put o HT2.out
      have hD4 : S1 + 4 ≤ D := by omega
      have hDl : D < W.heap.size := (Array.getElem?_eq_some_iff.1 hK).1
      have hK2 := (hon.block D hDl (by omega)).trans hK
      have hb2 := HBW.out.trans (hon.below (by omega) HBW.out.size)
      clear hon hK
      generalize W.setCells (w.heap.size + 1) 0 (ordA o).toList = W3 at *
      gi_wp2
      (try rw [Exit.noGoto_ret])
      refine ⟨by simp, .inl ⟨_, _, rfl, run_takeDeferred (w := W3) hK2, ?_⟩⟩
      have ho3 : ∀ ob, OrdAt (W3.putObj D ob) (w.heap.size + 1) o := fun ob => (heap_putObj_ne (by omega)).trans ho2
      have hc3 := fun ob => (ho3 ob).cells
      have y0 := fun ob => (hc3 ob).1
      have y1 := fun ob => (hc3 ob).2.1
      have y2 := fun ob => (hc3 ob).2.2.1
      have y3 := fun ob => (hc3 ob).2.2.2.1
      have y4 := fun ob => (hc3 ob).2.2.2.2.1
      have y5 := fun ob => (hc3 ob).2.2.2.2.2.1
      have y6 := fun ob => (hc3 ob).2.2.2.2.2.2.1
      have y7 := fun ob => (hc3 ob).2.2.2.2.2.2.2.1
      have y8 := fun ob => (hc3 ob).2.2.2.2.2.2.2.2.1
      have y9 := fun ob => (hc3 ob).2.2.2.2.2.2.2.2.2.1
      have y10 := fun ob => (hc3 ob).2.2.2.2.2.2.2.2.2.2.1
      have y11 := fun ob => (hc3 ob).2.2.2.2.2.2.2.2.2.2.2
      clear ho3 hc3
      refine ⟨.tuple #[ordV o, .int .i64 0], ?_, by rw [HM2.out], ⟨hb2.os, hb2.tape, hb2.output, by simpa using hb2.size, fun k hk => (heap_putObj_ne (by omega)).trans (hb2.block k hk)⟩⟩
      simp [results, Try.results7, go_sem, ordA, y0, y1, y2, y3, y4, y5, y6, y7, y8, y9, y10, y11]
    · have HM2 : Hid (decM 1 a = (zO, cd)) := Lib.hid (HMN.out.trans (if_neg hcd))
      have HCB : Hid ((cd == 0) = false) := Lib.hid (beq_eq_false_iff_ne.2 hcd)
      have hcb : (cd == 0) = false := HCB.out
      have hzz : ∀ w, (zeroValue 29).run Try.prog w = .ok (.agg #[.int .i64 0, .int .i64 0, .int .i64 0, .int .i64 0, .int .i64 0, .int .i64 0, .int .i64 0, .int .u64 0, .int .u64 0, .int .u64 0, .int .u64 0, .int .u64 0]) w := zeroOrd
      obtain ⟨x0, x1, x2, x3, x4, x5, x6, x7, x8, x9, x10, x11⟩ := HT2.out.cells
      have hfr := HT2.out.free
      gi_upto_region 16 with fail
      refine wpIn_wide.2 ?_
      go_region
      clear x0 x1 x2 x3 x4 x5 x6 x7 x8 x9 x10 x11 hfr hzz
      obtain ⟨ho2, hon⟩ := ord_put zO HT2.out
      have hD4 : S1 + 4 ≤ D := by omega
      have hDl : D < W.heap.size := (Array.getElem?_eq_some_iff.1 hK).1
      have hK2 := (hon.block D hDl (by omega)).trans hK
      have hb2 := HBW.out.trans (hon.below (by omega) HBW.out.size)
      clear hon hK
      change Exit.then _ _ Exit.normal _ ((W.setCells (w.heap.size + 1) 0 (ordA zO).toList).drew)
      generalize W.setCells (w.heap.size + 1) 0 (ordA zO).toList = W3 at *
      gi_wp2
      (try rw [Exit.noGoto_ret])
      refine ⟨by simp, .inl ⟨_, _, rfl, run_takeDeferred (w := W3.drew) hK2, ?_⟩⟩
      have ho3 : ∀ ob, OrdAt (W3.drew.putObj D ob) (w.heap.size + 1) zO := fun ob => (heap_putObj_ne (by omega)).trans ho2
      have hc3 := fun ob => (ho3 ob).cells
      have y0 := fun ob => (hc3 ob).1
      have y1 := fun ob => (hc3 ob).2.1
      have y2 := fun ob => (hc3 ob).2.2.1
      have y3 := fun ob => (hc3 ob).2.2.2.1
      have y4 := fun ob => (hc3 ob).2.2.2.2.1
      have y5 := fun ob => (hc3 ob).2.2.2.2.2.1
      have y6 := fun ob => (hc3 ob).2.2.2.2.2.2.1
      have y7 := fun ob => (hc3 ob).2.2.2.2.2.2.2.1
      have y8 := fun ob => (hc3 ob).2.2.2.2.2.2.2.2.1
      have y9 := fun ob => (hc3 ob).2.2.2.2.2.2.2.2.2.1
      have y10 := fun ob => (hc3 ob).2.2.2.2.2.2.2.2.2.2.1
      have y11 := fun ob => (hc3 ob).2.2.2.2.2.2.2.2.2.2.2
      clear ho3 hc3
      refine ⟨.tuple #[ordV zO, .int .i64 cd], ?_, by rw [HM2.out], ⟨hb2.os, hb2.tape, hb2.output, by simpa using hb2.size, fun k hk => (heap_putObj_ne (by omega)).trans (hb2.block k hk)⟩⟩
      simp [results, Try.results7, go_sem, ordA, y0, y1, y2, y3, y4, y5, y6, y7, y8, y9, y10, y11]
  case hstop =>
    rintro D cx pre W hD ⟨k, hk6, hpre⟩ hX hK
    have hz := hX.but.size
    have hko := row_cell hX.code 0
    have ht2 : OrdAt W (w.heap.size + 1) zO := (hX.but.block _ (by omega) (by omega) (by omega)).trans HRA.out
    have hbw : Below w.heap.size w W := HBA.out.trans (hX.but.below (by omega) (by omega))
    have hany : (fst6 6).any (fun x => stopD L a x.1) = true := by
      obtain ⟨y, -, hy⟩ := hX.yes
      exact List.any_eq_true.2 ⟨y, List.mem_finRange y, hy⟩
    have hmn : decM 1 a = (zO, 2) := by
      unfold decM
      rw [hL]
      show (if _ then _ else _) = _
      rw [if_neg (fun h => hk h.2), if_pos hany]
    obtain rfl := hX.c
    simp only [List.getElem?_toArray, List.getElem?_cons_zero] at hko
    have HBW := Lib.hid hbw
    have HT2 := Lib.hid ht2
    have HM2 := Lib.hid hmn
    have HCB : Hid (((2 : Int) == 0) = false) := Lib.hid (by decide)
    clear hany hbw ht2 hmn hX hL hpre
    have hcb : ((2 : Int) == 0) = false := HCB.out
    have hzz : ∀ w, (zeroValue 29).run Try.prog w = .ok (.agg #[.int .i64 0, .int .i64 0, .int .i64 0, .int .i64 0, .int .i64 0, .int .i64 0, .int .i64 0, .int .u64 0, .int .u64 0, .int .u64 0, .int .u64 0, .int .u64 0]) w := zeroOrd
    obtain ⟨x0, x1, x2, x3, x4, x5, x6, x7, x8, x9, x10, x11⟩ := HT2.out.cells
    have hfr := HT2.out.free
    gi_upto_region 16 with fail
    refine wpIn_wide.2 ?_
    go_region
    clear x0 x1 x2 x3 x4 x5 x6 x7 x8 x9 x10 x11 hfr hzz
    obtain ⟨ho2, hon⟩ := ord_put zO HT2.out
    have hD4 : S1 + 4 ≤ D := by omega
    have hDl : D < W.heap.size := (Array.getElem?_eq_some_iff.1 hK).1
    have hK2 := (hon.block D hDl (by omega)).trans hK
    have hb2 := HBW.out.trans (hon.below (by omega) HBW.out.size)
    clear hon hK
    change Exit.then _ _ Exit.normal _ ((W.setCells (w.heap.size + 1) 0 (ordA zO).toList).drew)
    generalize W.setCells (w.heap.size + 1) 0 (ordA zO).toList = W3 at *
    gi_wp2
    (try rw [Exit.noGoto_ret])
    refine ⟨by simp, .inl ⟨_, _, rfl, run_takeDeferred (w := W3.drew) hK2, ?_⟩⟩
    have ho3 : ∀ ob, OrdAt (W3.drew.putObj D ob) (w.heap.size + 1) zO := fun ob => (heap_putObj_ne (by omega)).trans ho2
    have hc3 := fun ob => (ho3 ob).cells
    have y0 := fun ob => (hc3 ob).1
    have y1 := fun ob => (hc3 ob).2.1
    have y2 := fun ob => (hc3 ob).2.2.1
    have y3 := fun ob => (hc3 ob).2.2.2.1
    have y4 := fun ob => (hc3 ob).2.2.2.2.1
    have y5 := fun ob => (hc3 ob).2.2.2.2.2.1
    have y6 := fun ob => (hc3 ob).2.2.2.2.2.2.1
    have y7 := fun ob => (hc3 ob).2.2.2.2.2.2.2.1
    have y8 := fun ob => (hc3 ob).2.2.2.2.2.2.2.2.1
    have y9 := fun ob => (hc3 ob).2.2.2.2.2.2.2.2.2.1
    have y10 := fun ob => (hc3 ob).2.2.2.2.2.2.2.2.2.2.1
    have y11 := fun ob => (hc3 ob).2.2.2.2.2.2.2.2.2.2.2
    clear ho3 hc3
    refine ⟨.tuple #[ordV zO, .int .i64 2], ?_, by rw [HM2.out], ⟨hb2.os, hb2.tape, hb2.output, by simpa using hb2.size, fun k hk => (heap_putObj_ne (by omega)).trans (hb2.block k hk)⟩⟩
    simp [results, Try.results7, go_sem, ordA, y0, y1, y2, y3, y4, y5, y6, y7, y8, y9, y10, y11]
end Go.Proofs.Ytahagcghbeeajaa
