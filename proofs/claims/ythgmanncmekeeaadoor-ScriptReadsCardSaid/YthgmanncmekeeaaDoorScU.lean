/- chapter 35: a line read, by the package: where there is a kind. -/
import Derived.Test.YthgmanncmekeeaaDoorScV
import Derived.RangeFuncNested
import Derived.Sort.CutIn
import Derived.Stop.RegionWithIn
namespace Go.Proofs.YthgmanncmekeeaaDoor
set_option linter.unusedVariables false
set_option linter.unusedSimpArgs false
open Go.ChangeShapes Go.WideShapes Go.ChangeAt Go.RowKit Go.Shelf
attribute [-go_sem] binOp_string_add binOp_string_eql binOp_string_neq run_index_string
attribute [local go_sem] Sc.bs_size
attribute [local go_sem] Oper.semAt_some
namespace Sc
theorem wpListIn_store_row {F : Fence} {n : Nat} {P : Program} {ops : Array Oper} {rest : List Oper} {o : Oper} {a : Act} {w : World} {Q : Exit → Act → World → Prop} (hgd : o.guard = none) (ty : TypeId) (x y : Operand) (ho : o.op = .store ty x y)
    (g : Nat) (cells : Array Value) (hx : a.eval x = .pointer (some ⟨g, 0, none⟩)) (hy : a.eval y = .agg cells)
    (t : TypeId) (old : Array Value) (hg : w.heap[g]? = some (.cells old t (0, 0))) (hi : (P.info? ty).map (·.size) = some cells.size)
    (hold : old.size = cells.size) (h1 : cells.all (·.oneCell') = true)
    (h : wpListIn F n P ops Q rest (a.put o.dst undef) (w.setRow g cells)) : wpListIn F n P ops Q (o :: rest) a w := by
  refine wpListIn_plain hgd fun K hK => ?_
  have hr := run_storeVar_row (P := P) w g t ty old cells hg hi hold h1
  unfold Oper.wpIn
  refine ⟨by simp [Oper.about, ho], ?_⟩
  rw [Oper.semAt_plain F _ _ (by rw [ho]; intro c hc'; cases hc')]
  simp [execOp, ho, hx, hy, Instr.storeAt, Instr.sureAddr, hr, Result.andThen]
  exact hK _ _ h
structure EvI (wA : World) (N B g m : Nat) (ps : List (Bool × Nat)) (ws : List Bs) (c0 : Ev) (pre : List (Fin ps.length)) (W : World) : Prop where
  go : ∃ c k o, k ≤ m ∧ evP (pre.map (plAt ps)) (c0, ws) = some (c, ws.drop k) ∧ EvAt W B c ∧ RestAt W B g m k o
  tv : Tv B wA W
structure EvX (wA : World) (N B g m : Nat) (ps : List (Bool × Nat)) (ws : List Bs) (c0 : Ev) (cd : Code) (pre : List (Fin ps.length)) (W : World) : Prop where
  hcd : cd = .ret
  no : evP (pre.map (plAt ps)) (c0, ws) = none
  rb : RB N W (ev0 0) false
  bel : Below N wA W
theorem RestAt.lt {W : World} {B g m k o : Nat} (h : RestAt W B g m k o) : B + 1 < W.heap.size := (Array.getElem?_eq_some_iff.1 h.box).1
theorem RestAt.cell {W : World} {B g m k o : Nat} (h : RestAt W B g m k o) : W.cell? ⟨B + 1, 0, none⟩ = some (.slice (some ⟨g, o, none⟩) (m - k) (m - k)) := by rw [row_cell h.box]; rfl
theorem RestAt.free {W : World} {B g m k o : Nat} (h : RestAt W B g m k o) : W.frozen? ⟨B + 1, 0, none⟩ = false := by simp [World.frozen?, h.box]
theorem EvI.from {wA : World} {N B g m : Nat} {ps : List (Bool × Nat)} {ws : List Bs} {c0 : Ev} (hb : B + 1 < wA.heap.size) : OwnFrom wA.heap.size (EvI wA N B g m ps ws c0) := by
  intro s A C row h hg hr
  obtain ⟨c, k, o, h1, h2, h3, h4⟩ := h.go
  have hsz := h.tv.size
  refine ⟨⟨c, k, o, h1, h2, (grown_blk hg hr (by omega) (by omega)).trans h3, ⟨(grown_blk hg hr h4.lt hb).trans h4.box, h4.at_⟩⟩, ?_⟩
  have hb2 := hg
  exact ⟨hg.os.trans h.tv.os, hg.tape.trans h.tv.tape, hg.output.trans h.tv.output, Nat.le_trans hsz hg.size, fun j a b c => (grown_blk hg hr (by omega) a).trans (h.tv.block j a b c)⟩
theorem EvX.from {wA : World} {N B g m : Nat} {ps : List (Bool × Nat)} {ws : List Bs} {c0 : Ev} (hb : N + 1 < wA.heap.size) (cd : Code) : OwnFrom wA.heap.size (EvX wA N B g m ps ws c0 cd) := by
  intro s A C row h hg hr
  have hsz := h.bel.size
  exact ⟨h.hcd, h.no, ⟨(grown_blk hg hr (by omega) (by omega)).trans h.rb.ev, (grown_blk hg hr (by omega) hb).trans h.rb.ok⟩, h.bel.grown hg (by omega) (fun r e => by have := (hr r e).1; omega)⟩
set_option maxRecDepth 100000 in
set_option maxHeartbeats 2000000 in
theorem event_in (l : Bs) (hl : l.length ≤ 100000) (w : World) (hE : EnvAt w) (a : Bs) (ws : List Bs) (h : spl 32 l = a :: ws) (hk : kd a ≠ 0) : CallsIn Fence.wide 3 Tryd.prog 29 #[.string (bs l)] w (EvRes l w) := by
  have HS := Lib.hid (fun v => split_row l hl v a ws h)
  obtain ⟨K, hK⟩ : ∃ K, K = kd a := ⟨_, rfl⟩
  have HK : Hid (∀ v, Calls Tryd.prog 39 #[.string (bs a)] v fun e w' => e = .returned (.int .i64 K) ∧ v = w') := Lib.hid (fun v => by rw [hK]; exact kindOf_any a v)
  have hkb : (K == 0) = false := beq_eq_false_iff_ne.2 (by rw [hK]; exact hk)
  have hev : evOf l = evR (places K) ws (ev0 K) := by unfold evOf evW; rw [h, hK]; exact if_neg hk
  have HNUM := Lib.hid (fun (v : World) (q : Nat) (hv : EvAt v q (ev0 K)) => numbers_any v q (ev0 K) hv)
  have HF : Hid (∀ e w' (d : Ev) (b : Bool), e = .returned (.tuple #[evV d, .bool b]) → (evOf l = none → b = false) → (∀ c, evOf l = some c → b = true ∧ d = c) → Below w.heap.size w w' → EvRes l w e w') := Lib.hid (fun e w' d b h1 h2 h3 h4 => ⟨d, b, h1, h2, h3, h4⟩)
  have HEV := Lib.hid hev
  have HWL : Hid (∀ x ∈ ws, x.length ≤ 100000) := Lib.hid (fun x hx => by
    have := spl_len 32 l x (by rw [h]; exact List.mem_cons_of_mem _ hx)
    omega)
  have hm63 : ws.length < 1000000 := by
    have := spl_count 32 l
    rw [h] at this
    simp at this
    omega
  clear h hl hk hK hev
  obtain ⟨m, hm⟩ : ∃ m, m = ws.length := ⟨_, rfl⟩
  have HM := Lib.hid hm
  rw [← hm] at HS hm63
  generalize hR : EvRes l w = R at HF ⊢
  clear hR hm
  have HZ := Lib.hid (RB.start w)
  have HB0 : Hid (Below w.heap.size w ((w.alloc (.cells (evA (ev0 0)) 36)).alloc (.cells #[.bool false] 4))) := Lib.hid (bal (bal (Below.refl _ _) _) _)
  refine callsIn_of_wp_marks Tryd.func29 rfl trivial ?_ rfl
  simp only [Tryd.ntmps29, List.size_toArray, List.length_cons, List.length_nil, Nat.reduceAdd, Nat.reduceSub, Array.replicate_succ, Array.replicate_zero, List.push_toArray, List.append_toArray, List.nil_append, List.cons_append]
  gi_upto_region 5 with (refine ⟨trivial, ?_⟩; first
    | (gi_at_call 38; (with_reducible refine (callsIn_wide.2 (HS.out _)).mono ?_); rintro e w2 ⟨g, rfl, hg0, hg1, hgb, hb2⟩; have hgc : w2.cell? ⟨g, 0, none⟩ = some (.string (bs a)) := (by rw [row_cell hgb]; rfl); have HRB := Lib.hid (HZ.out.call hb2); have HB2 := Lib.hid (HB0.out.trans (hb2.mono HB0.out.size)); have HG0 := Lib.hid hg0; have HG1 := Lib.hid hg1; have HGB := Lib.hid hgb; clear hb2 hgb hg0 hg1)
    | (gi_at_call 39; (with_reducible refine (callsIn_wide.2 (HK.out _)).mono ?_); rintro e w3 ⟨rfl, rfl⟩))
  obtain ⟨B, hB⟩ : ∃ B, B = w2.heap.size := ⟨_, rfl⟩
  rw [← hB]
  obtain ⟨w3, hw3⟩ : ∃ y, y = w2.alloc (.cells #[.int .i64 K, .int .i64 0, .int .i64 0, .int .u64 0, .int .u64 0, .int .u64 0, .int .u64 0, .int .u64 0, .int .u64 0, .int .u64 0, .int .u64 0, .int .u64 0, .int .i64 0, .int .i64 0, .int .i64 0] 36) := ⟨_, rfl⟩
  rw [← hw3]
  have hb3 : Below w2.heap.size w2 w3 := hw3 ▸ bal (Below.refl _ _) _
  have hz3 : w3.heap.size = B + 1 := by rw [hw3, World.size_alloc, hB]
  have HEV3 : Hid (EvAt w3 B (ev0 K)) := Lib.hid (by rw [hw3, hB]; exact World.alloc_heap_new w2 _)
  have HRB3 : Hid (RB w.heap.size w3 (ev0 0) false) := Lib.hid (HRB.out.call hb3)
  have HB3 : Hid (Below w.heap.size w w3) := Lib.hid (HB2.out.trans (hb3.mono HB2.out.size))
  have HGB3 := Lib.hid ((hb3.block _ HG1.out).trans HGB.out)
  have HGL : Hid (w.heap.size + 2 ≤ g ∧ g < B) := Lib.hid ⟨by have := HG0.out; simp at this; omega, by rw [hB]; exact HG1.out⟩
  have HE0 := Lib.hid hE
  clear hw3 hB hb3 HRB HB2 HGB HG0 HG1 hgc HZ HB0 HS HK hE
  gi_upto_region 6 with fail
  obtain ⟨o0, ho0, ho1⟩ : ∃ o0, (if m = 0 then some (⟨g, 0, none⟩ : Addr) else some ⟨g, 1, none⟩) = some ⟨g, o0, none⟩ ∧ (0 < m → o0 = 0 + 1) := by
    by_cases e : m = 0
    · exact ⟨0, if_pos e, fun q => by omega⟩
    · exact ⟨1, if_neg e, fun _ => rfl⟩
  rw [ho0]
  obtain ⟨w4, hw4⟩ : ∃ y, y = w3.alloc (.cells #[.slice (some ⟨g, o0, none⟩) m m] 79) := ⟨_, rfl⟩
  rw [← hw4]
  have hb4 : Below w3.heap.size w3 w4 := hw4 ▸ bal (Below.refl _ _) _
  have hz4 : w4.heap.size = B + 2 := by rw [hw4, World.size_alloc, hz3]
  have hrs4 : RestAt w4 B g m 0 o0 := ⟨by rw [hw4]; have := World.alloc_heap_new w3 (.cells #[.slice (some ⟨g, o0, none⟩) m m] 79); rw [hz3] at this; exact this, ho1⟩
  have ev4 : EvAt w4 B (ev0 K) := (hb4.block _ (by omega)).trans HEV3.out
  have HR4 := Lib.hid hrs4
  have HE4 := Lib.hid ev4
  have HRB4 : Hid (RB w.heap.size w4 (ev0 0) false) := Lib.hid (HRB3.out.call hb4)
  have HB4 : Hid (Below w.heap.size w w4) := Lib.hid (HB3.out.trans (hb4.mono HB3.out.size))
  have HGB4 := Lib.hid ((hb4.block _ (by have := HGL.out; omega)).trans HGB3.out)
  clear hw4 hb4 hz3 HEV3 HRB3 HB3 HGB3 hrs4 ev4 ho0 ho1
  have HC := Lib.hid (HNUM.out w4 B HE4.out)
  obtain ⟨N, hN⟩ : ∃ N, N = w.heap.size := ⟨_, rfl⟩
  rw [← hN] at HRB4 HB4 HGL ⊢
  have HNW := Lib.hid hN
  clear hN HNUM
  gi_wp2_with (refine ⟨trivial, ?_⟩; first
    | (gi_at_call 23; with_reducible refine (callsIn_wide.2 HC.out).mono ?_; rintro e wA ⟨q, v, rfl, hna, hbA⟩))
  obtain ⟨ps, hps⟩ : ∃ ps, ps = places (ev0 K 0) := ⟨_, rfl⟩
  rw [← hps] at hna
  have HPS : Hid (ps = places K) := Lib.hid (hps.trans rfl)
  have hpl0 : 0 < ps.length ∧ ps.length ≤ 8 := by rw [hps]; exact places_len _
  have hpok : ∀ p ∈ ps, PlOk p := by rw [hps]; exact places_pl _
  obtain ⟨h, cp, rfl, hg0, hg1, ⟨gcs, hgb⟩, hgc⟩ := hna.form hpl0.1
  have HPO := Lib.hid hpok
  have hsc : wA.cell? ⟨q, 0, none⟩ = some (.slice (some ⟨h, 0, none⟩) ps.length cp) := by rw [row_cell hna.box]; rfl
  have hcg : ∀ i p, ps[i]? = some p → wA.cell? ⟨h, i * 2, none⟩ = some (.pointer (pt0 B p)) ∧ wA.cell? ⟨h, i * 2 + 1, none⟩ = some (.pointer (pt1 B p)) := fun i p h => ⟨hgc _ _ (plsC_get B ps i p h).1, hgc _ _ (plsC_get B ps i p h).2⟩
  have hq0 : B + 2 ≤ q := by have := hna.hB; omega
  have hg0' : B + 2 ≤ h := by omega
  have hzA : B + 2 ≤ wA.heap.size := by have := hbA.size; omega
  have HQA := Lib.hid hna.box
  have HGA := Lib.hid hgb
  have hql : q < wA.heap.size := hna.lt
  have HRA : Hid (RestAt wA B g m 0 o0) := Lib.hid ⟨(hbA.block _ (by omega)).trans HR4.out.box, HR4.out.at_⟩
  have HEA : Hid (EvAt wA B (ev0 K)) := Lib.hid ((hbA.block _ (by omega)).trans HE4.out)
  have HRBA := Lib.hid (HRB4.out.call hbA)
  have HBA : Hid (Below N w wA) := Lib.hid (HB4.out.trans (hbA.mono (by rw [HNW.out]; exact HB4.out.size)))
  have HWA := Lib.hid ((hbA.block _ (by have := HGL.out; omega)).trans HGB4.out)
  have HKP : Hid (∀ V V', Tv B wA V → Tv B V V' → KeepsFrom wA.heap.size V V' ∧ KpQ q h V V') := Lib.hid (fun V V' h1 h2 => ⟨h2.keeps (by omega), h2.block _ (by have := h1.size; omega) (by omega) (by omega), h2.block _ (by have := h1.size; omega) (by omega) (by omega), h2.size⟩)
  clear hbA hna hgc hgb hps hpok HR4 HE4 HRB4 HB4 HGB4 HC
  refine wpIn_rangeFunc_ownH (α := Fin ps.length) rfl (by decide) (gf := 33) (lb := #[.pointer (some ⟨q, 0, none⟩)]) rfl trivial (enters_of Tryd.func33 (by kernel_rfl) rfl)
    (encs := encN B ps) (Kp := KpQ q h) (S := fun xs => xs = fstP ps.length ps.length) (Sp := fun pre => ∃ k, ∃ h : k < ps.length, pre = fstP ps.length k ++ [⟨k, h⟩]) (N := ps.length) (w0 := wA) (numbers1_seq 1 B q h cp ps wA hsc (by omega) hg1 hql hcg)
    (fun h k => h.trans k) ?hKb (Below.refl _ _) (fun _ => rfl) (EvI wA N B g m ps ws (ev0 K)) (EvX wA N B g m ps ws (ev0 K)) (EvI.from (by omega)) (fun cd => EvX.from (by have := HGL.out; omega) cd) ⟨⟨_, 0, o0, Nat.zero_le _, rfl, HEA.out, HRA.out⟩, Tv.refl _ _⟩
    (fun x a' W => ∃ d, a' = { tmps := #[.string (bs l), undef, .pointer (some ⟨N, 0, none⟩), .pointer (some ⟨N + 1, 0, none⟩), .slice (some ⟨g, 0, none⟩) (m + 1) (m + 1), .pointer (some ⟨B, 0, none⟩), .pointer (some ⟨B + 1, 0, none⟩), .pointer (some ⟨d, 0, none⟩), .string (bs l), .slice (some ⟨g, 0, none⟩) (m + 1) (m + 1), .slice (some ⟨g, 0, none⟩) (m + 1) (m + 1), .pointer (some ⟨g, 0, none⟩), .string (bs a), .int .i64 K, .agg #[.int .i64 K, .int .i64 0, .int .i64 0, .int .u64 0, .int .u64 0, .int .u64 0, .int .u64 0, .int .u64 0, .int .u64 0, .int .u64 0, .int .u64 0, .int .u64 0, .int .i64 0, .int .i64 0, .int .i64 0], .pointer (some ⟨B, 0, none⟩), .int .i64 K, .bool false, undef, .slice (some ⟨g, 0, none⟩) (m + 1) (m + 1), .slice (some ⟨g, o0, none⟩) m m, .func (.func 33) #[] #[.pointer (some ⟨q, 0, none⟩)], .agg #[.pointer (pt0 B (plAt ps x)), .pointer (pt1 B (plAt ps x))], undef, undef, undef, undef, undef, undef, undef, undef, undef, undef, undef, undef, undef, undef, undef, undef, undef, undef], defers := [] } ∧ W.heap[d]? = some (.cells #[.pointer (pt0 B (plAt ps x)), .pointer (pt1 B (plAt ps x))] 66 (0, 0)) ∧ wA.heap.size ≤ d) ?hAx
    ?hassign ?hbody ?hdone ?hstop
  case hKb =>
    intro W l o o' hl ho _ _
    exact ⟨heap_putObj_ne (by omega), heap_putObj_ne (by omega), by simp⟩
  case hAx =>
    rintro x a' _ A C row ⟨d, h1, h2, h3⟩ hg hr
    refine ⟨d, h1, (hg.block d (Array.getElem?_eq_some_iff.1 h2).1 (fun e => ?_)).trans h2, h3⟩
    obtain ⟨-, o, ho, hc⟩ := hr d e.symm
    rw [show A.heap[d]? = _ from h2] at ho
    cases ho
    cases hc
  case hassign =>
    intro l pre x W K hI hK
    simp only [encN, numV2_eq]
    gi_wp2
    have hsz := hI.tv.size
    have hbw : Below W.heap.size W (W.alloc (.cells #[.pointer (pt0 B (plAt ps x)), .pointer (pt1 B (plAt ps x))] 66)) := bal (Below.refl _ _) _
    have tw : Tv B W (W.alloc (.cells #[.pointer (pt0 B (plAt ps x)), .pointer (pt1 B (plAt ps x))] 66)) := Tv.of_below (bal (Below.refl _ _) _)
    obtain ⟨c, k, o, h1, h2, h3, h4⟩ := hI.go
    exact hK _ _ (HKP.out _ _ hI.tv tw).1 (HKP.out _ _ hI.tv tw).2 ⟨⟨c, k, o, h1, h2, (hbw.block _ (by omega)).trans h3, ⟨(hbw.block _ h4.lt).trans h4.box, h4.at_⟩⟩, hI.tv.trans tw⟩ ⟨W.heap.size, rfl, World.alloc_heap_new _ _, hsz⟩
  case hbody =>
    rintro l pre x a' W hl hr hI ⟨d, rfl, hd, hd4⟩ hlen
    have hsz := hI.tv.size
    obtain ⟨c, k, o, hk, hpe, hev, hrest⟩ := hI.go
    have hgl := HGL.out
    have hrb : RB N W (ev0 0) false := ⟨(hI.tv.block _ (by omega) (by omega) (by omega)).trans HRBA.out.ev, (hI.tv.block _ (by omega) (by omega) (by omega)).trans HRBA.out.ok⟩
    have hsn : evP ((pre ++ [x]).map (plAt ps)) (ev0 K, ws) = stepP (plAt ps x) (c, ws.drop k) := by
      rw [List.map_append, List.map_singleton, evP_snoc, hpe]; rfl
    have hend : ∀ V0 V, Tv B W V0 → stepP (plAt ps x) (c, ws.drop k) = none → V = V0.setRow N (evA (ev0 0)) → RB N V (ev0 0) false ∧ KeepsFrom wA.heap.size W (V.setCell ⟨N + 1, 0, none⟩ (.bool false)) ∧ EvX wA N B g m ps ws (ev0 K) .ret (pre ++ [x]) (V.setCell ⟨N + 1, 0, none⟩ (.bool false)) := by
      rintro V0 V ht hst rfl
      have r0 : RB N V0 (ev0 0) false := ⟨(ht.block _ (by omega) (by omega) (by omega)).trans hrb.ev, (ht.block _ (by omega) (by omega) (by omega)).trans hrb.ok⟩
      have r1 : RB N (V0.setRow N (evA (ev0 0))) (ev0 0) false := r0.row
      have k1 : KeepsFrom wA.heap.size W (V0.setRow N (evA (ev0 0))) := ⟨by have := ht.size; simp [World.setRow]; omega, fun j ob hj ho hc => (setRow_diff _ _ _ _ (by omega)).trans ((ht.keeps (M := wA.heap.size) (by omega)).same j ob hj ho hc)⟩
      exact ⟨r1, keeps_set k1 ⟨N + 1, 0, none⟩ (by show N + 1 < wA.heap.size; omega) _, rfl, hsn.trans hst, r1.put false, (below_row ((hI.tv.trans ht).below (by omega) (by omega)) (Nat.le_refl _) _).setCell (p := ⟨N + 1, 0, none⟩) (by show N ≤ N + 1; omega) _⟩
    have HEND := Lib.hid hend
    have HI := Lib.hid hI
    have HRB := Lib.hid hrb
    have HSN := Lib.hid hsn
    have HEVW := Lib.hid hev
    have HRW := Lib.hid hrest
    have HD := Lib.hid hd
    clear hend hI hrb hsn hev hd hl hr hlen hpe hsc hcg
    by_cases hkm : k = m
    · subst hkm
      have hcl : W.cell? ⟨B + 1, 0, none⟩ = some (.slice (some ⟨g, o, none⟩) 0 0) := by have := HRW.out.cell; rwa [Nat.sub_self] at this
      have HNO : Hid (stepP (plAt ps x) (c, ws.drop k) = none) := Lib.hid (by rw [HM.out, List.drop_length]; rfl)
      gi_upto_region 8 with fail
      gi_region_with (refine ⟨trivial, ?_⟩)
      all_goals gi_wp2_with (refine wpListIn_store_row rfl 36 _ _ rfl N _ rfl rfl _ _ HRB.out.ev (by kernel_rfl) rfl (ev_one (ev0 0)) ?_; generalize hVV : World.setRow _ _ _ = V; have HV := Lib.hid (HEND.out W.drew V (Tv.of_below (Below.refl _ _).drew) HNO.out hVV.symm); have q0 := HV.out.1.cell; have q1 := HV.out.1.free; clear hVV)
      all_goals exact HV.out.2
    · have hkl : k < m := by omega
      obtain ⟨r, hr⟩ : ∃ r, m - k = r + 1 := ⟨m - k - 1, by omega⟩
      obtain rfl := HRW.out.at_ hkl
      have hcl : W.cell? ⟨B + 1, 0, none⟩ = some (.slice (some ⟨g, k + 1, none⟩) (r + 1) (r + 1)) := by have := HRW.out.cell; rwa [hr] at this
      obtain ⟨x0, hx0⟩ : ∃ x0, ws[k]? = some x0 := ⟨_, List.getElem?_eq_getElem (by rw [← HM.out]; exact hkl)⟩
      have hdk : ws.drop k = x0 :: ws.drop (k + 1) := by
        obtain ⟨hh, e⟩ := List.getElem?_eq_some_iff.1 hx0
        rw [List.drop_eq_getElem_cons hh, e]
      have hwc : W.cell? ⟨g, k + 1, none⟩ = some (.string (bs x0)) := by
        rw [row_cell ((HI.out.tv.block g (by omega) (by omega) (by omega)).trans HWA.out)]
        simp [strV, hx0]
      have e0 : W.cell? ⟨d, 0, none⟩ = some (.pointer (pt0 B (plAt ps x))) := by rw [row_cell HD.out]; rfl
      have e1 : W.cell? ⟨d, 1, none⟩ = some (.pointer (pt1 B (plAt ps x))) := by rw [row_cell HD.out]; rfl
      have hEW : EnvAt W.drew := (HE0.out.call (by rw [← HNW.out]; exact HBA.out.trans ((HI.out.tv.below (N := N) (by omega) (by omega)).mono (by omega)))).call (Below.refl _ _).drew
      have HRD := Lib.hid (read_any x0 (HWL.out x0 (List.mem_of_getElem? hx0)) W.drew hEW B c HEVW.out (plAt ps x) (HPO.out _ (List.getElem_mem x.2)))
      rw [numV2_eq] at HRD
      by_cases hy : numB x0 = true ∧ farP (plAt ps x).1 (numV x0) = false
      · have HC : Hid (Calls Tryd.prog 40 #[.string (bs x0), .agg #[.pointer (pt0 B (plAt ps x)), .pointer (pt1 B (plAt ps x))]] W.drew fun e w' => e = .returned (.bool true) ∧ EvAt w' B (upd c (plAt ps x).2 (numV x0)) ∧ OneTurn B W.drew w') := Lib.hid (HRD.out.mono (by
          rintro e w' (⟨-, h1, h2, h3⟩ | ⟨h0, -⟩)
          · exact ⟨h1, h2, h3⟩
          · exact absurd hy h0))
        have HST := Lib.hid (show stepP (plAt ps x) (c, ws.drop k) = some (upd c (plAt ps x).2 (numV x0), ws.drop (k + 1)) from by rw [hdk]; exact stepP_go hy)
        clear HRD hy hEW hx0 hdk
        gi_upto_region 8 with fail
        gi_region_with (refine ⟨trivial, ?_⟩; gi_at_call 40; with_reducible refine (calls_round HC.out).mono ?_; rintro e w5 ⟨rfl, he5, ht5⟩; have HE5 := Lib.hid he5; have HT5 := Lib.hid ht5; clear he5 ht5)
        all_goals
          have htv : Tv B W w5 := (Tv.of_below (Below.refl _ _).drew).trans (Tv.one HT5.out)
          have hrs5 : RestAt w5 B g m k (k + 1) := ⟨(HT5.out.block (B + 1) (by have := HRW.out.lt; exact this) (by omega)).trans HRW.out.box, fun _ => rfl⟩
          have hcl5 : w5.cell? ⟨B + 1, 0, none⟩ = some (.slice (some ⟨g, k + 1, none⟩) (r + 1) (r + 1)) := by have := hrs5.cell; rwa [hr] at this
          have hfr5 := hrs5.free
          have HTW := Lib.hid htv
          have HR5 := Lib.hid hrs5
          have hfi : ∀ o', (0 < r → o' = k + 1 + 1) → KeepsFrom wA.heap.size W (w5.setCell ⟨B + 1, 0, none⟩ (.slice (some ⟨g, o', none⟩) r r)) ∧ KpQ q h W (w5.setCell ⟨B + 1, 0, none⟩ (.slice (some ⟨g, o', none⟩) r r)) ∧ EvI wA N B g m ps ws (ev0 K) (pre ++ [x]) (w5.setCell ⟨B + 1, 0, none⟩ (.slice (some ⟨g, o', none⟩) r r)) := by
            intro o' ho'
            have ht2 := htv.set (.slice (some ⟨g, o', none⟩) r r)
            have e1 : m - (k + 1) = r := by omega
            exact ⟨(HKP.out _ _ HI.out.tv ht2).1, (HKP.out _ _ HI.out.tv ht2).2, ⟨_, k + 1, o', hkl, HSN.out.trans HST.out, (Below.heap_setCell _ _ _ _ (by show B ≠ B + 1; omega)).trans HE5.out, ⟨by rw [Go.heap_setCell_same _ _ _ _ _ _ hrs5.box, e1]; rfl, fun q => ho' (by omega)⟩⟩, HI.out.tv.trans ht2⟩
          have HFI := Lib.hid hfi
          clear htv hrs5 hfi
          gi_wp2
        all_goals first
          | exact HFI.out (k + 1 + 1) (fun _ => rfl)
          | (have hr0 : r = 0 := by assumption
             subst hr0
             exact HFI.out (k + 1) (fun h => by omega))
      · have HC : Hid (Calls Tryd.prog 40 #[.string (bs x0), .agg #[.pointer (pt0 B (plAt ps x)), .pointer (pt1 B (plAt ps x))]] W.drew fun e w' => e = .returned (.bool false) ∧ OneTurn B W.drew w') := Lib.hid (HRD.out.mono (by
          rintro e w' (⟨h0, -⟩ | ⟨-, h1, h2, h3⟩)
          · exact absurd h0 hy
          · exact ⟨h1, h3⟩))
        have HNO : Hid (stepP (plAt ps x) (c, ws.drop k) = none) := Lib.hid (by rw [hdk]; exact stepP_no hy)
        clear HRD hy hEW hx0 hdk
        gi_upto_region 8 with fail
        gi_region_with (refine ⟨trivial, ?_⟩; gi_at_call 40; with_reducible refine (calls_round HC.out).mono ?_; rintro e w5 ⟨rfl, ht5⟩; have HT5 := Lib.hid ht5; clear ht5)
        all_goals
          have htv : Tv B W w5 := (Tv.of_below (Below.refl _ _).drew).trans (Tv.one HT5.out)
          have HTW := Lib.hid htv
          have HR5 : Hid (RB N w5 (ev0 0) false) := Lib.hid ⟨(htv.block _ (by omega) (by omega) (by omega)).trans HRB.out.ev, (htv.block _ (by omega) (by omega) (by omega)).trans HRB.out.ok⟩
          clear htv
          gi_wp2_with (refine wpListIn_store_row rfl 36 _ _ rfl N _ rfl rfl _ _ HR5.out.ev (by kernel_rfl) rfl (ev_one (ev0 0)) ?_; generalize hVV : World.setRow _ _ _ = V; have HV := Lib.hid (HEND.out w5 V HTW.out HNO.out hVV.symm); have q0 := HV.out.1.cell; have q1 := HV.out.1.free; clear hVV)
          exact HV.out.2
  case hdone =>
    rintro D xs W hD rfl hI hK
    obtain ⟨c, k, o, hk, hpe, hev, hrest⟩ := hI.go
    have hgl := HGL.out
    have hsz := hI.tv.size
    have hpm : (fstP ps.length ps.length).map (plAt ps) = ps := by
      rw [fstP_all]
      have := finRange_map ps (fun p => p)
      simpa using this
    rw [hpm] at hpe
    have hres : evOf l = if ws.drop k = [] then some c else none := by rw [HEV.out, ← HPS.out]; exact evR_some hpe
    have hrb : RB N W (ev0 0) false := ⟨(hI.tv.block _ (by omega) (by omega) (by omega)).trans HRBA.out.ev, (hI.tv.block _ (by omega) (by omega) (by omega)).trans HRBA.out.ok⟩
    obtain ⟨r, hr⟩ : ∃ r, r = m - k := ⟨_, rfl⟩
    have hcl : W.cell? ⟨B + 1, 0, none⟩ = some (.slice (some ⟨g, o, none⟩) r r) := by rw [hr]; exact hrest.cell
    have c0 : W.cell? ⟨B, 0, none⟩ = some (.int .i64 (c 0)) := by rw [row_cell hev]; rfl
    have c1 : W.cell? ⟨B, 1, none⟩ = some (.int .i64 (c 1)) := by rw [row_cell hev]; rfl
    have c2 : W.cell? ⟨B, 2, none⟩ = some (.int .i64 (c 2)) := by rw [row_cell hev]; rfl
    have c3 : W.cell? ⟨B, 3, none⟩ = some (.int .u64 (c 3)) := by rw [row_cell hev]; rfl
    have c4 : W.cell? ⟨B, 4, none⟩ = some (.int .u64 (c 4)) := by rw [row_cell hev]; rfl
    have c5 : W.cell? ⟨B, 5, none⟩ = some (.int .u64 (c 5)) := by rw [row_cell hev]; rfl
    have c6 : W.cell? ⟨B, 6, none⟩ = some (.int .u64 (c 6)) := by rw [row_cell hev]; rfl
    have c7 : W.cell? ⟨B, 7, none⟩ = some (.int .u64 (c 7)) := by rw [row_cell hev]; rfl
    have c8 : W.cell? ⟨B, 8, none⟩ = some (.int .u64 (c 8)) := by rw [row_cell hev]; rfl
    have c9 : W.cell? ⟨B, 9, none⟩ = some (.int .u64 (c 9)) := by rw [row_cell hev]; rfl
    have c10 : W.cell? ⟨B, 10, none⟩ = some (.int .u64 (c 10)) := by rw [row_cell hev]; rfl
    have c11 : W.cell? ⟨B, 11, none⟩ = some (.int .u64 (c 11)) := by rw [row_cell hev]; rfl
    have c12 : W.cell? ⟨B, 12, none⟩ = some (.int .i64 (c 12)) := by rw [row_cell hev]; rfl
    have c13 : W.cell? ⟨B, 13, none⟩ = some (.int .i64 (c 13)) := by rw [row_cell hev]; rfl
    have c14 : W.cell? ⟨B, 14, none⟩ = some (.int .i64 (c 14)) := by rw [row_cell hev]; rfl
    have HRB := Lib.hid hrb
    have HK2 := Lib.hid hK
    have HBW : Hid (Below N w W) := Lib.hid (HBA.out.trans (hI.tv.below (by omega) (by omega)))
    obtain ⟨b, hb⟩ : ∃ b : Bool, b = ((r : Int) == 0) := ⟨_, rfl⟩
    have HBB : Hid ((evOf l = none → b = false) ∧ ∀ e, evOf l = some e → b = true ∧ c = e) := Lib.hid (by
      rw [hres, hb]
      by_cases e : k = m
      · have : ws.drop k = [] := by rw [e, HM.out, List.drop_length]
        rw [if_pos this]
        refine ⟨fun q => (by cases q), fun e q => ⟨?_, Option.some.inj q⟩⟩
        rw [beq_iff_eq]; omega
      · have : ws.drop k ≠ [] := by
          intro q
          have := congrArg List.length q
          rw [List.length_drop, ← HM.out] at this
          simp at this
          omega
        rw [if_neg this]
        refine ⟨fun _ => ?_, fun e q => (by cases q)⟩
        rw [beq_eq_false_iff_ne]; omega)
    have hbe : ((r : Int) == 0) = b := hb.symm
    clear hb hI hK hrb hres hpe hpm hrest hev hcg hsc hr
    have n0 : W.cell? ⟨N, 0, none⟩ = some (.int .i64 0) := by rw [row_cell HRB.out.ev]; rfl
    have n1 : W.cell? ⟨N, 1, none⟩ = some (.int .i64 0) := by rw [row_cell HRB.out.ev]; rfl
    have n2 : W.cell? ⟨N, 2, none⟩ = some (.int .i64 0) := by rw [row_cell HRB.out.ev]; rfl
    have n3 : W.cell? ⟨N, 3, none⟩ = some (.int .u64 0) := by rw [row_cell HRB.out.ev]; rfl
    have n4 : W.cell? ⟨N, 4, none⟩ = some (.int .u64 0) := by rw [row_cell HRB.out.ev]; rfl
    have n5 : W.cell? ⟨N, 5, none⟩ = some (.int .u64 0) := by rw [row_cell HRB.out.ev]; rfl
    have n6 : W.cell? ⟨N, 6, none⟩ = some (.int .u64 0) := by rw [row_cell HRB.out.ev]; rfl
    have n7 : W.cell? ⟨N, 7, none⟩ = some (.int .u64 0) := by rw [row_cell HRB.out.ev]; rfl
    have n8 : W.cell? ⟨N, 8, none⟩ = some (.int .u64 0) := by rw [row_cell HRB.out.ev]; rfl
    have n9 : W.cell? ⟨N, 9, none⟩ = some (.int .u64 0) := by rw [row_cell HRB.out.ev]; rfl
    have n10 : W.cell? ⟨N, 10, none⟩ = some (.int .u64 0) := by rw [row_cell HRB.out.ev]; rfl
    have n11 : W.cell? ⟨N, 11, none⟩ = some (.int .u64 0) := by rw [row_cell HRB.out.ev]; rfl
    have n12 : W.cell? ⟨N, 12, none⟩ = some (.int .i64 0) := by rw [row_cell HRB.out.ev]; rfl
    have n13 : W.cell? ⟨N, 13, none⟩ = some (.int .i64 0) := by rw [row_cell HRB.out.ev]; rfl
    have n14 : W.cell? ⟨N, 14, none⟩ = some (.int .i64 0) := by rw [row_cell HRB.out.ev]; rfl
    have nf : ∀ j, W.frozen? ⟨N, j, none⟩ = false := fun j => by simp [World.frozen?, HRB.out.ev]
    have q0 := HRB.out.cell
    have q1 := HRB.out.free
    gi_upto_region 11 with fail
    first | gi_region_with (fail) | fail
    all_goals gi_wp2
    all_goals
      change bodyPostM Fence.wide 3 _ _ _ _ _ (World.drew (fillEv W N c b))
      have vD : (fillEv W N c b).drew.heap[D]? = some (.deferred (some [])) := at_drew ((fill_other c b (by have := HGL.out; omega) (by have := HGL.out; omega)).trans HK2.out)
      have vB : Below N w (fillEv W N c b).drew := (fill_below HBW.out (Nat.le_refl _) c b).drew
      have vR : RB N (fillEv W N c b).drew c b := (fill_rb HRB.out c b).drew
      obtain ⟨V, hV⟩ : ∃ V, V = (fillEv W N c b).drew := ⟨_, rfl⟩
      rw [← hV] at vD vB vR ⊢
      clear hV
      refine ⟨by simp, .inl ⟨_, _, rfl, run_takeDeferred (w := V) vD, ?_⟩⟩
      have k2 : ∀ ob, RB N (V.putObj D ob) c b := fun ob => ⟨(heap_putObj_ne (by have := HGL.out; omega)).trans vR.ev, (heap_putObj_ne (by have := HGL.out; omega)).trans vR.ok⟩
      have y0 := fun ob => load_ev_row (k2 ob).ev
      have y1 := fun ob => (k2 ob).load
      refine ⟨.tuple #[evV c, .bool b], ?_, HF.out _ _ c b rfl HBB.out.1 HBB.out.2 ?_⟩
      · simp [results, Tryd.results29, asAddr, Sem.run_bind, Sem.run_pure, Result.andThen_ok, y0, y1]
      · rw [← HNW.out]
        exact ⟨vB.os, vB.tape, vB.output, by simpa using vB.size, fun k hk => (heap_putObj_ne (by have := HGL.out; omega)).trans (vB.block k hk)⟩
  case hstop =>
    rintro D cd pre W hD hSp hX hK
    obtain rfl := hX.hcd
    have hres : evOf l = none := by
      obtain ⟨k, hk, rfl⟩ := hSp
      have e1 : (fstP ps.length k ++ [(⟨k, hk⟩ : Fin ps.length)]).map (plAt ps) = ps.take (k + 1) := by
        rw [← fstP_succ]
        unfold fstP
        rw [List.map_take]
        have := finRange_map ps (fun p => p)
        simp at this
        rw [show (List.finRange ps.length).map (plAt ps) = ps from this]
      have hno := hX.no
      rw [e1] at hno
      rw [HEV.out, ← HPS.out, ← List.take_append_drop (k + 1) ps]
      exact evR_none hno
    have HX := Lib.hid hX
    have HK2 := Lib.hid hK
    have HBW : Hid (Below N w W) := Lib.hid (HBA.out.trans hX.bel)
    have HNO := Lib.hid hres
    clear hX hK hres hSp hcg hsc
    have vD : W.heap[D]? = some (.deferred (some [])) := HK2.out
    gi_wp2
    refine ⟨by simp, .inl ⟨_, _, rfl, run_takeDeferred (w := W) vD, ?_⟩⟩
    have k2 : ∀ ob, RB N (W.putObj D ob) (ev0 0) false := fun ob => ⟨(heap_putObj_ne (by have := HGL.out; omega)).trans HX.out.rb.ev, (heap_putObj_ne (by have := HGL.out; omega)).trans HX.out.rb.ok⟩
    have y0 := fun ob => load_ev_row (k2 ob).ev
    have y1 := fun ob => (k2 ob).load
    refine ⟨.tuple #[evV (ev0 0), .bool false], ?_, HF.out _ _ (ev0 0) false rfl (fun _ => rfl) (fun c hc => by rw [HNO.out] at hc; cases hc) ?_⟩
    · simp [results, Tryd.results29, asAddr, Sem.run_bind, Sem.run_pure, Result.andThen_ok, y0, y1]
    · rw [← HNW.out]
      exact ⟨HBW.out.os, HBW.out.tape, HBW.out.output, by simpa using HBW.out.size, fun k hk => (heap_putObj_ne (by have := HGL.out; omega)).trans (HBW.out.block k hk)⟩
end Sc
end Go.Proofs.YthgmanncmekeeaaDoor
