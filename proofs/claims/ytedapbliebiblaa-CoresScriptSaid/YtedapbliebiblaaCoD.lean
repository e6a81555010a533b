/- package cores: DropSpace, All, Regs. -/
import Derived.Test.YtedapbliebiblaaCo9
import Derived.Test.YtedapbliebiblaaTkS
namespace Go.Proofs.Ytedapbliebiblaa
set_option linter.unusedVariables false
set_option linter.unusedSimpArgs false
open Go.ChangeShapes Go.WideShapes Go.ChangeAt Go.RowKit Go.Shelf
attribute [local go_sem] Oper.semAt_some
set_option maxRecDepth 100000 in
set_option maxHeartbeats 2000000 in
theorem cdropS_in (w : World) (b g n c : Nat) (R Q : Nat → Int) (T : Nat → Nat) (S : Nat → TS) (a : Int) (h : CoresAt w b g n c R Q T S) :
    CallsIn Fence.wide 3 Try.prog 27 #[.pointer (some ⟨b, 0, none⟩), .int .i64 a] w fun e w' => e = .returned (.int .i64 ((dropL S (spaceOut a) (frs n n)).2 : Nat)) ∧ CoresAt w' b g n c R Q T (dropL S (spaceOut a) (frs n n)).1 ∧ OnlyT n T w w' := by
  have H := Lib.hid h
  clear h
  refine callsIn_of_wp_marks Try.func27 rfl trivial ?_ rfl
  simp only [Try.ntmps27, List.size_toArray, List.length_cons, List.length_nil, Nat.reduceAdd, Nat.reduceSub, Array.replicate_succ, Array.replicate_zero, List.push_toArray, List.append_toArray, List.nil_append, List.cons_append]
  gi_wp2_with (refine ⟨trivial, ?_⟩; gi_at_call 43; refine (caches_in _ _ _).mono ?_; rintro e w' ⟨rfl, rfl⟩)
  obtain ⟨wA, hwA⟩ : ∃ x, x = (((w.alloc (.cells #[.int .i64 a] 3)).alloc (.cells #[.int .i64 0] 3)).alloc (.cells #[.pointer (some ⟨b, 0, none⟩)] 25)) := ⟨_, rfl⟩
  rw [← hwA]
  have hsz : wA.heap.size = w.heap.size + 3 := by rw [hwA]; simp
  have hBw : Below w.heap.size w wA := hwA ▸ bal (bal (bal (Below.refl _ _) _) _) _
  have e0 : wA.cell? ⟨w.heap.size, 0, none⟩ = some (.int .i64 a) := by rw [hwA]; go_simp
  have e2 : wA.cell? ⟨w.heap.size + 1, 0, none⟩ = some (.int .i64 0) ∧ wA.frozen? ⟨w.heap.size + 1, 0, none⟩ = false := by constructor <;> (rw [hwA]; go_simp; try rfl)
  have e3 : wA.cell? ⟨w.heap.size + 2, 0, none⟩ = some (.pointer (some ⟨b, 0, none⟩)) := by rw [hwA]; go_simp
  have HA := Lib.hid (H.out.call hBw)
  have hlT := fun i hi => (H.out.tlb i hi).lt
  have hlb := H.out.lb
  have hlg := H.out.lg
  clear hwA
  refine wpIn_rangeFunc_ownF (α := Fin n) rfl (by decide) (gf := 55) (lb := #[.pointer (some ⟨w.heap.size + 1 + 1, 0, none⟩)]) rfl trivial (enters_of Try.func55 (by kernel_rfl) rfl)
    (encs := fun x : Fin n => #[.pointer (some ⟨T x.1, 0, none⟩)]) (Kp := KpC (w.heap.size + 2) b g) (S := fun xs => xs = frs n n) (Sp := fun pre => True) (N := 3) (w0 := wA) (caches1_seq 1 (w.heap.size + 2) b g n c R Q T S wA e3 (by omega) HA.out)
    (fun h k => h.trans k) ?hKb (Below.refl _ _) (fun _ => rfl) (DrpI wA b g c R Q T S (spaceOut a) (w.heap.size + 1)) (fun _ _ _ => False) (DrpI.from (by omega) HA.out) (fun _ _ _ _ _ h _ _ => h) ⟨HA.out, e2.1, e2.2, Nat.le_refl _, ButT.refl _ _ _ _⟩
    (fun x => { tmps := #[.pointer (some ⟨b, 0, none⟩), .int .i64 a, undef, .pointer (some ⟨w.heap.size, 0, none⟩), .int .i64 0, .pointer (some ⟨w.heap.size + 1, 0, none⟩), .pointer (some ⟨T x.1, 0, none⟩), .pointer (some ⟨b, 0, none⟩), .func (.func 55) #[] #[.pointer (some ⟨w.heap.size + 1 + 1, 0, none⟩)], .pointer (some ⟨T x.1, 0, none⟩), undef, undef, undef, undef, undef, undef], defers := [] }) ?hassign ?hbody ?hdone ?hstop
  case hKb =>
    intro W l o o' hl ho _ _
    exact ⟨heap_putObj_ne (by omega), heap_putObj_ne (by omega), heap_putObj_ne (by omega), by simp⟩
  case hassign =>
    intro l x W K hK
    gi_wp2
    exact hK
  case hbody =>
    rintro l pre x W ⟨hC, hn, hf, hle, hB⟩ hlen
    have hx := x.2
    have hTx := hlT x.1 hx
    have hs := hB.size
    have n2 : ∀ i, i < n → w.heap.size + 1 ≠ T i := fun i hi => by have := hlT i hi; omega
    have k0 : W.cell? ⟨w.heap.size, 0, none⟩ = some (.int .i64 a) := (cell_of_block (hB.block _ (by omega) (by omega) (fun i hi => by have := hlT i hi; omega))).trans e0
    have HCW := Lib.hid hC
    have HBW := Lib.hid hB
    obtain ⟨cn, hcn⟩ : ∃ cn, (dropL S (spaceOut a) pre).2 = cn := ⟨_, rfl⟩
    obtain ⟨S1, hS1⟩ : ∃ S1, (dropL S (spaceOut a) pre).1 = S1 := ⟨_, rfl⟩
    rw [hcn] at hn hle
    rw [hS1] at HCW
    have hd8 : (dropF (S1 x.1) (spaceOut a) (fullP (S1 x.1) 8)).2 ≤ 8 := by
      have h1 := dropF_le (spaceOut a) (fullP (S1 x.1) 8) (S1 x.1, 0)
      have h2 := fullP_len (S1 x.1) 8
      unfold dropF
      simp only [Nat.zero_add] at h1
      omega
    obtain ⟨⟨s', d⟩, hd⟩ : ∃ z, dropF (S1 x.1) (spaceOut a) (fullP (S1 x.1) 8) = z := ⟨_, rfl⟩
    rw [hd] at hd8
    simp only at hd8
    have hsn : dropL S (spaceOut a) (pre ++ [x]) = (setT S1 x.1 s', cn + d) := by rw [dropL_snoc, hcn, hS1, hd]
    have HSN := Lib.hid hsn
    have HD := Lib.hid hd
    have hlen2 : pre.length < 3 := hlen
    have hsum : IntKind.i64.wrap ((cn : Int) + (d : Int)) = (cn : Int) + (d : Int) := IntWalk.i64_in _ (by omega)
    have HLE := Lib.hid hle
    have HD8 := Lib.hid hd8
    have hlx2 : w.heap.size + 1 < W.heap.size := by omega
    have HN2 := Lib.hid (n2 x.1 hx)
    clear hC hB hcn hS1 hd hsn e0 e2 e3 n2 hle hd8
    gi_wp2
    gi_region_with (first
      | (refine ⟨trivial, ?_⟩; gi_at_call 50; refine (calls_round (dropSpace_any _ (T x.1) (S1 x.1) a ((HCW.out.tlb x.1 hx).call (Below.refl _ _).drew) (Good.ok (HCW.out.good x.1 hx)).way)).mono ?_; rw [HD.out]; rintro e w3 ⟨rfl, ht3, ho3⟩; have HT3 := Lib.hid ht3; have HO3 := Lib.hid ho3; have q2 := (ho3.cell hlx2 HN2.out hn); have qf := ((frozen_of_block (ho3.block _ hlx2 HN2.out)).trans hf); clear ht3 ho3)
      | (gi_at_call 50; refine (calls_round (dropSpace_any _ (T x.1) (S1 x.1) a ((HCW.out.tlb x.1 hx).call (Below.refl _ _).drew) (Good.ok (HCW.out.good x.1 hx)).way)).mono ?_; rw [HD.out]; rintro e w3 ⟨rfl, ht3, ho3⟩; have HT3 := Lib.hid ht3; have HO3 := Lib.hid ho3; have q2 := (ho3.cell hlx2 HN2.out hn); have qf := ((frozen_of_block (ho3.block _ hlx2 HN2.out)).trans hf); clear ht3 ho3))
    all_goals gi_wp2
    all_goals
      have ho := TlbOnly.of_dr HO3.out
      have hg : Good s' := by have := good_dropF (HCW.out.good x.1 hx) (spaceOut a); rw [HD.out] at this; exact this
      have hoff := HCW.out.off x.1 hx
      have hsz3 := ho.size
      have hcs := (HCW.out.put hx HT3.out hg ho)
      have hlb' : b < W.heap.size := by omega
      have hlg' : g < W.heap.size := by omega
      refine ⟨KeepsOthers.step_set (KeepsOthers.of_tlb ho (HCW.out.tlb x.1 hx)) _ _, ⟨?_, ?_, ?_, ?_⟩, ?_, ?_, ?_, ?_, ?_⟩
      · exact (Go.heap_setCell_other _ _ _ _ (by simp)).trans (ho.block _ (by omega) (by omega))
      · exact (Go.heap_setCell_other _ _ _ _ (by simp; omega)).trans (ho.block _ hlb' (Ne.symm hoff.1))
      · exact (Go.heap_setCell_other _ _ _ _ (by simp; omega)).trans (ho.block _ hlg' (Ne.symm hoff.2))
      · simpa using hsz3
      · rw [HSN.out]
        exact hcs.far (by omega) (by omega) (fun i hi => by have := hlT i hi; omega) _
      · rw [HSN.out]; simp [go_sem, q2]
      · simp [go_sem, qf]
      · rw [HSN.out, List.length_append]
        have h1 := HLE.out
        have h2 := HD8.out
        simp only [List.length_cons, List.length_nil]
        omega
      · exact (HBW.out.one hx ho).set _
  case hdone =>
    rintro D xs W hD rfl ⟨hC, hn, hf, hle, hB⟩ hK
    obtain ⟨cn, hcn⟩ : ∃ cn, (dropL S (spaceOut a) (frs n n)).2 = cn := ⟨_, rfl⟩
    rw [hcn] at hn
    have HCN := Lib.hid hcn
    have HCW := Lib.hid hC
    have HBW := Lib.hid hB
    have HH := Lib.hid hBw
    clear hC hB hcn hle e0 e2 e3 hBw
    gi_wp2
    refine ⟨by simp, .inl ⟨_, _, rfl, run_takeDeferred hK, ?_⟩⟩
    refine ⟨_, results_tmp rfl _ _ _, (by rw [HCN.out]; rfl), HCW.out.of_blocks (by simp) (heap_putObj_ne (by omega)) (heap_putObj_ne (by omega)) (fun i hi => heap_putObj_ne (by have := hlT i hi; omega)), ⟨HBW.out.os.trans HH.out.os, HBW.out.tape.trans HH.out.tape, HBW.out.output.trans HH.out.output, by have h1 := HBW.out.size; have h2 := HH.out.size; simp; omega, fun k hk hT => ?_⟩⟩
    exact (heap_putObj_ne (by omega)).trans ((HBW.out.block k (by omega) (by omega) hT).trans (HH.out.block k hk))
  case hstop =>
    rintro D c pre W hD _ hf hK
    exact hf.elim
theorem call_ok (w : World) (b g n c k : Nat) (R Q : Nat → Int) (T : Nat → Nat) (S : Nat → TS) (h : CoresAt w b g n c R Q T S) (hk : k < n) :
    Calls Try.prog 26 #[.pointer (some ⟨b, 0, none⟩), .int .i64 k] w fun e W' => ∃ p c g, e = .returned (.slice p (allN (S k)) c) ∧ (0 < allN (S k) → p = some ⟨g, 0, none⟩ ∧ w.heap.size ≤ g ∧ g < W'.heap.size) ∧ TRows W' g (allN (S k)) (allT (S k)) ∧ Below w.heap.size w W' := by
  have H := Lib.hid h
  have c2 := (h.row k hk).2.2
  clear h
  go_enter Try.func26, Try.ntmps26
  go_wp2_with (first
    | (go_at_call 42; refine (get_ok _ b g n c k R Q T S H.out hk).mono ?_; rintro e w1 ⟨rfl, rfl⟩)
    | (go_at_call 49; refine (tall_any _ (T k) (S k) (H.out.tlb k hk) (Good.ok (H.out.good k hk))).mono ?_; rintro e w2 ⟨p', c', g', rfl, hp', hr', hb'⟩))
  go_ret
  exact ⟨_, _, _, rfl, hp', hr', hb'⟩
theorem cregs_ok (w : World) (b g n c k : Nat) (R Q : Nat → Int) (T : Nat → Nat) (S : Nat → TS) (h : CoresAt w b g n c R Q T S) (hk : k < n) :
    Calls Try.prog 28 #[.pointer (some ⟨b, 0, none⟩), .int .i64 k] w fun e w' => e = .returned (.tuple #[.int .i64 (R k), .int .i64 (Q k), .int .i64 0]) ∧ Below w.heap.size w w' := by
  have H := Lib.hid h
  obtain ⟨c0, c1, -⟩ := h.row k hk
  clear h
  go_enter Try.func28, Try.ntmps28
  go_wp2_with (first
    | (go_at_call 42; refine (get_ok _ b g n c k R Q T S H.out hk).mono ?_; rintro e w1 ⟨rfl, rfl⟩))
  go_region
  go_wp2
  exact bodyPost_ret (v := .tuple #[.int .i64 (R k), .int .i64 (Q k), .int .i64 0]) (by simp [results, Try.results28, go_sem]) rfl ⟨rfl, below_drewN (Below.refl _ _) _⟩
end Go.Proofs.Ytedapbliebiblaa
